"""Point 12: all stands to which some run leads; and point 2 as far as it speaks of these."""

import unittest

from guild_samples import (
    ALL_SAMPLES, ALONE, CHAIN, MANY, NO_LIKES, PAIR, SEVEN, SIX_MINDS, SQUARE, THREE_MINDS, THRICE_TWO_MINDS,
    TWICE_TWO_MINDS, TWO_MINDS, random_guilds,
)
from likedways.bounds import STANDS
from likedways.errors import TooMany, WayError
from likedways.reached import reached
from likedways.stands import first_stand, is_stand
from plain_answers import plain_made, plain_reached, plain_turns
from refusals import refused

RANDOM = random_guilds(121, 80, (2, 3, 4, 5), 3)


class TestReached(unittest.TestCase):
    def test_samples(self):
        self.assertEqual(reached(ALONE), [((0,), ())])
        self.assertEqual(reached(NO_LIKES), [((0,), (), ())])
        self.assertEqual(reached(PAIR), [((0,), ()), ((0,), (1, 0))])
        self.assertEqual(
            reached(TWO_MINDS),
            [
                ((0,), (), ()),
                ((0,), (), (2, 0)),
                ((0,), (1, 0), ()),
                ((0,), (1, 0), (2, 0)),
                ((0,), (1, 0), (2, 1, 0)),
                ((0,), (1, 2, 0), (2, 0)),
                ((0,), (1, 2, 0), (2, 1, 0)),
            ],
        )

    def test_by_turns_of_several_houses_at_once_alone(self):
        # Both houses are at their roads, and each changes over to the other one, in one turn.
        self.assertIn(((0,), (1, 2, 0), (2, 1, 0)), reached(TWO_MINDS))

    def test_not_all_stands_are_reached(self):
        self.assertNotIn(((0,), (1, 2, 0), ()), reached(TWO_MINDS))
        self.assertEqual(len(reached(CHAIN)), 7)
        self.assertEqual(len(reached(SEVEN)), 64)

    def test_every_small_guild(self):
        for guild in list(ALL_SAMPLES) + RANDOM:
            self.assertEqual(repr(reached(guild)), repr(plain_reached(guild)))

    def test_each_number_of_houses(self):
        for many in range(2, 8):
            for guild in random_guilds(122 + many, 3, (many,), 3):
                self.assertEqual(guild[0], many)
                right = plain_reached(guild)
                if right is None:
                    self.assertEqual(refused(reached, guild), ("TooMany", STANDS))
                else:
                    self.assertEqual(reached(guild), right)

    def test_turns_lead_to_none_but_these(self):
        for guild in (THREE_MINDS, SQUARE, TWICE_TWO_MINDS):
            stands = reached(guild)
            for stand in stands:
                self.assertIs(is_stand(guild, stand), True)
                for turn in plain_turns(guild):
                    self.assertIn(plain_made(guild, stand, turn), stands)


class TestMost(unittest.TestCase):
    def test_as_many_as_there_are(self):
        for guild in list(ALL_SAMPLES) + RANDOM[:20]:
            right = plain_reached(guild)
            self.assertEqual(reached(guild, most=len(right)), right)
            self.assertEqual(reached(guild, most=len(right) + 1), right)
            self.assertEqual(reached(guild, most=STANDS), right)
            if len(right) > 1:
                self.assertEqual(refused(reached, guild, most=len(right) - 1), ("TooMany", len(right) - 1))

    def test_one(self):
        self.assertEqual(reached(ALONE, most=1), [((0,), ())])
        self.assertEqual(refused(reached, PAIR, most=1), ("TooMany", 1))
        self.assertEqual(refused(reached, MANY, most=1), ("TooMany", 1))

    def test_each_most(self):
        for most in range(1, 10):
            if most < 7:
                self.assertEqual(refused(reached, TWO_MINDS, most=most), ("TooMany", most))
            else:
                self.assertEqual(len(reached(TWO_MINDS, most=most)), 7)

    def test_left_out(self):
        self.assertEqual(len(reached(THRICE_TWO_MINDS)), 343)
        self.assertEqual(refused(reached, MANY), ("TooMany", 1000))
        self.assertEqual(refused(reached, MANY, most=999), ("TooMany", 999))

    def test_refusal_is_a_way_error(self):
        with self.assertRaises(WayError) as caught:
            reached(SIX_MINDS, most=17)
        self.assertIs(type(caught.exception), TooMany)
        self.assertEqual(caught.exception.many, 17)

    def test_beyond_the_bound_is_no_error(self):
        self.assertEqual(len(reached(TWO_MINDS, most=STANDS + 500)), 7)

    def test_by_name_alone(self):
        with self.assertRaises(TypeError):
            reached(TWO_MINDS, 5)


class TestNothingChanged(unittest.TestCase):
    def test_new_list_each_time(self):
        one, other = reached(TWO_MINDS), reached(TWO_MINDS)
        self.assertIs(type(one), list)
        shown = repr(other)
        one.clear()
        self.assertEqual(repr(other), shown)
        self.assertEqual(repr(reached(TWO_MINDS)), shown)

    def test_same_asked_again_behind_a_refusal(self):
        shown = repr(TWO_MINDS)
        one = reached(TWO_MINDS)
        self.assertEqual(refused(reached, TWO_MINDS, most=3), ("TooMany", 3))
        self.assertEqual(reached(TWO_MINDS), one)
        self.assertEqual(repr(TWO_MINDS), shown)
        self.assertEqual(one[0], first_stand(TWO_MINDS))


if __name__ == "__main__":
    unittest.main()

"""Point 6: stands, choices, turns and steady stands; and point 2 as far as it speaks of these."""

import copy
import time
import unittest
from itertools import product
from random import Random

from guild_samples import (
    ALL_SAMPLES, ALONE, CALMED, CHAIN, LONG_WAYS, NO_LIKES, PAIR, SEVEN, SEVEN_NO_LIKES, SQUARE,
    THREE_MINDS, TWICE_TWO_MINDS, TWO_MINDS, full_guild, random_guilds,
)
from likedways.guilds import dropped
from likedways.stands import choice, first_stand, is_stand, is_steady, made, steady_stands
from odd_things import HUGE, MORE_DEEP_THINGS, ODD_THINGS, loosened, with_place
from plain_answers import (
    plain_choice, plain_first, plain_made, plain_stands, plain_steady, plain_steady_stands, plain_turns,
)

SMALL = [guild for guild in ALL_SAMPLES if len(plain_stands(guild)) <= 3000]
SMALL += random_guilds(61, 60, (2, 3, 4, 5), 3)
FEW = SMALL[::4]


class IsStand(unittest.TestCase):
    def yes(self, guild, thing):
        self.assertIs(is_stand(guild, thing), True, repr((guild, thing))[:400])

    def no(self, guild, thing):
        self.assertIs(is_stand(guild, thing), False, repr((guild, thing))[:400])


class TestIsStand(IsStand):
    def test_every_stand(self):
        for guild in SMALL:
            for stand in plain_stands(guild):
                self.yes(guild, stand)

    def test_ways_need_not_fit_one_another(self):
        self.yes(TWO_MINDS, ((0,), (1, 2, 0), (2, 1, 0)))
        self.yes(TWO_MINDS, ((0,), (1, 2, 0), ()))
        self.yes(CHAIN, ((0,), (), (), (), (), (), (6, 5, 4, 3, 2, 1, 0)))

    def test_seven_houses(self):
        self.yes(SEVEN, ((0,), (1, 0), (2, 6, 0), (), (4, 3, 0), (5, 0), ()))
        self.no(SEVEN, ((0,), (1, 0), (2, 6, 0), (), (4, 3, 0), (5, 0), (6,)))
        self.no(SEVEN, ((0,), (1, 0), (2, 6, 0), (), (4, 3, 2, 0), (5, 0), ()))

    def test_houses_that_like_nothing(self):
        self.yes(ALONE, ((0,), ()))
        self.no(ALONE, ((0,), (1, 0)))
        self.no(ALONE, ((0,), (0,)))
        self.yes(SEVEN_NO_LIKES, ((0,), (), (), (), (), (), ()))
        self.no(SEVEN_NO_LIKES, ((0,), (1, 0), (), (), (), (), ()))

    def test_way_that_is_not_liked(self):
        self.no(SQUARE, ((0,), (1, 0), (2, 1, 0), (3, 2, 1, 0)))
        self.no(dropped(TWO_MINDS, [(1, 0)]), ((0,), (1, 0), ()))
        self.yes(dropped(TWO_MINDS, [(1, 0)]), ((0,), (1, 2, 0), ()))

    def test_way_of_another_house(self):
        self.no(TWO_MINDS, ((0,), (2, 0), (1, 0)))
        self.no(TWO_MINDS, ((0,), (2, 1, 0), ()))
        self.no(TWO_MINDS, ((0,), (), (0,)))
        self.no(TWO_MINDS, ((0,), (0,), (2, 0)))

    def test_the_hall_has_its_way_alone(self):
        for odd in ((), (1, 0), (0, 0), (1,), 0, (False,), [0], ((0,),), None, "0", (None,)):
            self.no(PAIR, (odd, (1, 0)))
            self.no(PAIR, (odd, ()))
        self.yes(PAIR, ((0,), (1, 0)))

    def test_wrong_length(self):
        for guild in SMALL:
            stand = plain_stands(guild)[-1]
            self.no(guild, stand[:-1])
            self.no(guild, stand[1:])
            self.no(guild, stand + ((),))
            self.no(guild, stand + stand[-1:])
            self.no(guild, ((0,),) + stand)
            self.no(guild, ())
            self.no(guild, (stand,))

    def test_other_kinds_within(self):
        for guild in SMALL:
            for stand in plain_stands(guild)[-3:]:
                for odd in loosened(stand):
                    self.no(guild, odd)

    def test_truths_in_the_place_of_numbers(self):
        self.no(PAIR, ((0,), (True, 0)))
        self.no(PAIR, ((0,), (1, False)))
        self.no(PAIR, ((0,), (True, False)))
        self.no(PAIR, ((False,), (1, 0)))
        self.no(PAIR, ((0,), False))
        self.no(TWO_MINDS, ((0,), (1, 2, False), ()))

    def test_anything(self):
        for guild in FEW:
            for odd in ODD_THINGS + MORE_DEEP_THINGS:
                self.no(guild, odd)
                self.no(guild, (odd,) * guild[0])
                self.no(guild, [odd] * guild[0])

    def test_anything_in_each_place(self):
        for guild in (PAIR, TWO_MINDS, SQUARE, SEVEN):
            stand = ((0,),) + tuple(liked[-1] for liked in guild[2])
            self.yes(guild, stand)
            for at in range(guild[0]):
                for odd in ODD_THINGS + MORE_DEEP_THINGS + ((1, HUGE), (at, 0, at), (at,), (-at, 0)):
                    fits = odd == () and at > 0 or odd == (0,) and at == 0
                    (self.yes if fits else self.no)(guild, with_place(stand, at, odd))

    def test_every_row_of_short_ways(self):
        ways = [row for size in range(4) for row in product(range(-1, 4), repeat=size)]
        stands = plain_stands(TWO_MINDS)
        for way in ways:
            for stand in (((0,), way, ()), ((0,), (1, 0), way), (way, (), (2, 0))):
                self.assertIs(is_stand(TWO_MINDS, stand), stand in stands)


class TestFirstStand(unittest.TestCase):
    def test_samples(self):
        self.assertEqual(first_stand(PAIR), ((0,), ()))
        self.assertEqual(first_stand(TWO_MINDS), ((0,), (), ()))
        self.assertEqual(first_stand(SEVEN), ((0,), (), (), (), (), (), ()))
        for guild in SMALL:
            self.assertEqual(repr(first_stand(guild)), repr(plain_first(guild)))
            self.assertIs(is_stand(guild, first_stand(guild)), True)


class TestChoice(unittest.TestCase):
    def test_first_liked_way_whose_rest_is_there(self):
        self.assertEqual(choice(TWO_MINDS, ((0,), (), ()), 1), (1, 0))
        self.assertEqual(choice(TWO_MINDS, ((0,), (), (2, 0)), 1), (1, 2, 0))
        self.assertEqual(choice(TWO_MINDS, ((0,), (1, 0), ()), 2), (2, 1, 0))
        self.assertEqual(choice(TWO_MINDS, ((0,), (1, 2, 0), ()), 2), (2, 0))
        self.assertEqual(choice(TWO_MINDS, ((0,), (1, 2, 0), (2, 1, 0)), 1), (1, 0))

    def test_what_the_house_has_itself_does_not_count(self):
        for way in ((), (1, 0), (1, 2, 0)):
            self.assertEqual(choice(TWO_MINDS, ((0,), way, (2, 0)), 1), (1, 2, 0))
            self.assertEqual(choice(TWO_MINDS, ((0,), way, ()), 1), (1, 0))

    def test_rest_is_just_what_the_next_house_has(self):
        # House 2 comes to the hall, but not as house 1 would have it.
        self.assertEqual(choice(SQUARE, ((0,), (), (2, 1, 0), (3, 0)), 1), (1, 0))
        self.assertEqual(choice(SQUARE, ((0,), (), (2, 3, 0), ()), 1), (1, 2, 3, 0))

    def test_none(self):
        self.assertEqual(choice(ALONE, ((0,), ()), 1), ())
        self.assertEqual(choice(CHAIN, first_stand(CHAIN), 2), ())
        self.assertEqual(choice(LONG_WAYS, first_stand(LONG_WAYS), 3), ())
        self.assertEqual(choice(NO_LIKES, first_stand(NO_LIKES), 2), ())

    def test_worse_ways_wait(self):
        self.assertEqual(choice(SEVEN, ((0,), (), (2, 0), (3, 0), (4, 0), (5, 0), (6, 0)), 1), (1, 0))
        less = dropped(SEVEN, [(1, 0)])
        self.assertEqual(choice(less, ((0,), (), (), (3, 0), (4, 0), (5, 0), (6, 0)), 1), (1, 3, 0))

    def test_every_stand(self):
        for guild in SMALL:
            for stand in plain_stands(guild)[:300]:
                for house in range(1, guild[0]):
                    told = choice(guild, stand, house)
                    self.assertEqual(told, plain_choice(guild, stand, house))
                    self.assertIs(type(told), tuple)


class TestMade(unittest.TestCase):
    def test_one_house(self):
        self.assertEqual(made(TWO_MINDS, ((0,), (), ()), (1,)), ((0,), (1, 0), ()))
        self.assertEqual(made(TWO_MINDS, ((0,), (1, 0), ()), (2,)), ((0,), (1, 0), (2, 1, 0)))
        self.assertEqual(made(TWO_MINDS, ((0,), (1, 2, 0), ()), (1,)), ((0,), (1, 0), ()))

    def test_each_by_the_stand_ahead(self):
        self.assertEqual(made(TWO_MINDS, ((0,), (), ()), (1, 2)), ((0,), (1, 0), (2, 0)))
        self.assertEqual(made(TWO_MINDS, ((0,), (1, 0), (2, 0)), (1, 2)), ((0,), (1, 2, 0), (2, 1, 0)))
        self.assertEqual(made(TWO_MINDS, ((0,), (1, 2, 0), (2, 1, 0)), (1, 2)), ((0,), (1, 0), (2, 0)))
        self.assertEqual(
            made(CHAIN, first_stand(CHAIN), (1, 2, 3, 4, 5, 6)), ((0,), (1, 0), (), (), (), (), ()),
        )

    def test_others_keep_their_way(self):
        # House 2 has a way whose rest is gone, and keeps it until its turn comes.
        stand = ((0,), (1, 2, 3, 0), (2, 1, 0), ())
        self.assertEqual(made(SQUARE, stand, (3,)), ((0,), (1, 2, 3, 0), (2, 1, 0), (3, 0)))
        self.assertEqual(made(SQUARE, stand, (1, 3)), ((0,), (1, 0), (2, 1, 0), (3, 0)))
        self.assertEqual(made(SQUARE, stand, (2,)), ((0,), (1, 2, 3, 0), (), ()))

    def test_house_loses_its_way(self):
        self.assertEqual(made(CHAIN, ((0,), (), (2, 1, 0), (), (), (), ()), (2,)), first_stand(CHAIN))

    def test_every_turn(self):
        for guild in SMALL:
            for stand in plain_stands(guild)[::5][:40]:
                for turn in plain_turns(guild):
                    told = made(guild, stand, turn)
                    self.assertEqual(repr(told), repr(plain_made(guild, stand, turn)))
                    self.assertIs(is_stand(guild, told), True)

    def test_seven_houses(self):
        stand = ((0,), (1, 2, 0), (2, 0), (), (4, 3, 0), (5, 0), (6, 1, 0))
        for turn in plain_turns(SEVEN):
            self.assertEqual(made(SEVEN, stand, turn), plain_made(SEVEN, stand, turn))


class TestSteady(unittest.TestCase):
    def test_samples(self):
        self.assertIs(is_steady(ALONE, ((0,), ())), True)
        self.assertIs(is_steady(PAIR, ((0,), ())), False)
        self.assertIs(is_steady(PAIR, ((0,), (1, 0))), True)
        self.assertIs(is_steady(TWO_MINDS, ((0,), (1, 2, 0), (2, 0))), True)
        self.assertIs(is_steady(TWO_MINDS, ((0,), (1, 0), (2, 0))), False)
        self.assertIs(is_steady(TWO_MINDS, ((0,), (1, 2, 0), (2, 1, 0))), False)

    def test_one_house_alone_is_not_settled(self):
        stand = ((0,),) + tuple(liked[0] for liked in SEVEN[2])
        self.assertIs(is_steady(SEVEN, stand), True)
        for house in range(1, 7):
            self.assertIs(is_steady(SEVEN, with_place(stand, house, ())), False)
            self.assertIs(is_steady(SEVEN, with_place(stand, house, SEVEN[2][house - 1][3])), False)

    def test_every_stand(self):
        for guild in SMALL:
            for stand in plain_stands(guild)[:400]:
                self.assertIs(is_steady(guild, stand), plain_steady(guild, stand))


class TestSteadyStands(unittest.TestCase):
    def test_none(self):
        self.assertEqual(steady_stands(THREE_MINDS), [])

    def test_one(self):
        self.assertEqual(steady_stands(ALONE), [((0,), ())])
        self.assertEqual(steady_stands(PAIR), [((0,), (1, 0))])
        self.assertEqual(steady_stands(CALMED), [((0,), (1, 3, 0), (2, 0), (3, 0))])
        self.assertEqual(steady_stands(SEVEN), [((0,),) + tuple((house, 0) for house in range(1, 7))])
        self.assertEqual(steady_stands(SEVEN_NO_LIKES), [((0,), (), (), (), (), (), ())])
        self.assertEqual(steady_stands(LONG_WAYS), [((0,), (), (), (), (), (), ())])
        self.assertEqual(
            steady_stands(CHAIN), [((0,),) + tuple(tuple(range(house, -1, -1)) for house in range(1, 7))],
        )

    def test_several_rising(self):
        self.assertEqual(
            steady_stands(TWO_MINDS), [((0,), (1, 0), (2, 1, 0)), ((0,), (1, 2, 0), (2, 0))],
        )
        self.assertEqual(
            steady_stands(TWICE_TWO_MINDS),
            [
                ((0,), (1, 0), (2, 1, 0), (3, 0), (4, 3, 0)),
                ((0,), (1, 0), (2, 1, 0), (3, 4, 0), (4, 0)),
                ((0,), (1, 2, 0), (2, 0), (3, 0), (4, 3, 0)),
                ((0,), (1, 2, 0), (2, 0), (3, 4, 0), (4, 0)),
            ],
        )

    def test_a_way_over_a_house_that_has_none(self):
        # House 2 likes nothing, so nobody can go over it.
        guild = (3, TWO_MINDS[1], (((1, 2, 0), (1, 0)), ()))
        self.assertEqual(steady_stands(guild), [((0,), (1, 0), ())])
        self.assertEqual(steady_stands((3, TWO_MINDS[1], (((1, 2, 0),), ()))), [((0,), (), ())])

    def test_every_small_guild(self):
        counts = set()
        for guild in SMALL:
            right = plain_steady_stands(guild)
            self.assertEqual(repr(steady_stands(guild)), repr(right))
            counts.add(len(right))
        self.assertLessEqual({0, 1, 2}, counts)

    def test_seven_houses(self):
        for guild in random_guilds(62, 6, (6, 7), 5):
            self.assertEqual(steady_stands(guild), plain_steady_stands(guild))

    def test_seven_houses_with_six_ways(self):
        chance = Random(63)
        guild = full_guild(chance)
        self.assertEqual(len(plain_stands(guild)), 7 ** 6)
        self.assertEqual(steady_stands(guild), plain_steady_stands(guild))
        began = time.perf_counter()
        for _ in range(10):
            for stand in steady_stands(full_guild(chance)):
                self.assertEqual(len(stand), 7)
        self.assertLess(time.perf_counter() - began, 20)

    def test_new_list_each_time(self):
        for guild in (TWO_MINDS, THREE_MINDS, SEVEN):
            one, other = steady_stands(guild), steady_stands(guild)
            self.assertIs(type(one), list)
            self.assertIsNot(one, other)
            shown = repr(other)
            one.append(None)
            one.reverse()
            self.assertEqual(repr(other), shown)
            self.assertEqual(repr(steady_stands(guild)), shown)


class TestNothingChanged(unittest.TestCase):
    def test_thing_is_as_it_was(self):
        things = ([[0], [1, 0], []], ([0], [1, 2, 0], ()), ((0,), [[]], [()]), [], [[(0,)], (1, 0)])
        for thing in things:
            before = copy.deepcopy(thing)
            self.assertIs(is_stand(TWO_MINDS, thing), False)
            self.assertEqual(repr(thing), repr(before))

    def test_same_asked_again(self):
        for guild in FEW:
            shown = repr(guild)
            stands = plain_stands(guild)[:20]
            one = [made(guild, stand, turn) for stand in stands for turn in plain_turns(guild)]
            other = [made(guild, stand, turn) for stand in stands for turn in plain_turns(guild)]
            self.assertEqual(one, other)
            self.assertEqual(steady_stands(guild), steady_stands(guild))
            self.assertEqual(repr(guild), shown)

    def test_a_guild_beyond_the_bounds_is_no_error(self):
        roads = tuple((0, house) for house in range(1, 9))
        guild = (9, roads, tuple(((house, 0),) for house in range(1, 9)))
        right = ((0,),) + tuple((house, 0) for house in range(1, 9))
        self.assertEqual(steady_stands(guild), [right])
        self.assertIs(is_stand(guild, right), True)


if __name__ == "__main__":
    unittest.main()

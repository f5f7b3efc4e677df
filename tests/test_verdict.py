"""Point 14: verdicts and rests; points 2 and 3 as far as they speak of these."""

import time
import unittest
from random import Random

from guild_samples import (
    ALL_SAMPLES, ALONE, CALMED, CHAIN, FAR_SPOKE, FIVE_MINDS, FOUR_MINDS, MANY, NO_LIKES, PAIR, SEVEN, SIX_MINDS, SQUARE,
    STAIRS, THREE_MINDS, THRICE_TWO_MINDS, TWICE_TWO_MINDS, TWO_MINDS, TWO_RINGS, WITH_ORDER, full_guild, random_guild,
    random_guilds,
)
from likedways.bounds import STANDS
from likedways.orders import order_or_ring
from likedways.reached import reached
from likedways.stands import steady_stands
from likedways.verdicts import is_calm, is_endless, rests, verdict
from plain_answers import (
    plain_can_go_on, plain_is_calm, plain_is_endless, plain_reached, plain_steady, plain_turns,
)
from refusals import refused

RANDOM = random_guilds(141, 150, (2, 3, 4), 3)
ENDLESS = (TWO_MINDS, THREE_MINDS, FOUR_MINDS, FIVE_MINDS, SIX_MINDS, TWICE_TWO_MINDS, TWO_RINGS, THRICE_TWO_MINDS)
SAFE_WITH_RING = (CALMED, FAR_SPOKE)


def large_guilds(seed, count):
    """Guilds of seven houses that each like up to six ways, and all of them six."""
    chance = Random(seed)
    return [random_guild(chance, 7, 6) for _ in range(count)] + [full_guild(chance) for _ in range(count)]


class Verdicts(unittest.TestCase):
    def told(self, guild, **named):
        """What kind of verdict is told, which is found to be right."""
        told = verdict(guild, **named)
        self.assertIs(type(told), tuple)
        if told[0] == "safe":
            self.assertEqual(len(told), 2)
            self.assertIs(type(told[1]), list)
            self.assertIs(is_calm(guild, told[1]), True)
            self.assertIs(plain_is_calm(guild, told[1]), True)
        else:
            self.assertEqual((told[0], len(told)), ("endless", 3))
            self.assertIs(type(told[1]), list)
            self.assertIs(type(told[2]), list)
            self.assertIs(is_endless(guild, told[1], told[2]), True)
            self.assertIs(plain_is_endless(guild, told[1], told[2]), True)
        return told[0]


class TestVerdict(Verdicts):
    def test_safe_with_an_order(self):
        for guild in WITH_ORDER:
            self.assertEqual(self.told(guild), "safe")

    def test_safe_without_an_order(self):
        for guild in SAFE_WITH_RING:
            self.assertEqual(order_or_ring(guild)[0], "ring")
            self.assertEqual(self.told(guild), "safe")

    def test_endless(self):
        for guild in ENDLESS:
            self.assertEqual(self.told(guild), "endless")

    def test_stands_that_come_again_and_still_it_is_safe(self):
        # Without a turn of house 3 houses 1 and 2 go round; so the calm has stands of one rank.
        ranks = [rank for _, rank, _ in verdict(CALMED)[1]]
        self.assertLess(len(set(ranks)), len(ranks))

    def test_endless_only_where_all_houses_have_turns(self):
        # House 3 has nothing to choose, but is in a turn of the round all the same.
        guild = (4, CALMED[1], CALMED[2][:2] + ((),))
        self.assertEqual(self.told(guild), "endless")
        self.assertEqual({house for turn in verdict(guild)[2] for house in turn}, {1, 2, 3})

    def test_every_small_guild(self):
        kinds = []
        for guild in RANDOM + [TWO_MINDS, THREE_MINDS, CALMED, FAR_SPOKE, SQUARE, PAIR, ALONE, NO_LIKES]:
            kind = self.told(guild)
            self.assertEqual(kind == "endless", plain_can_go_on(guild), guild)
            if order_or_ring(guild)[0] == "order":
                self.assertEqual(kind, "safe")
            kinds.append((kind, order_or_ring(guild)[0]))
        for pair in (("safe", "order"), ("safe", "ring"), ("endless", "ring")):
            self.assertGreater(kinds.count(pair), 1)

    def test_five_houses(self):
        for guild in random_guilds(142, 15, (5,), 2):
            self.assertEqual(self.told(guild) == "endless", plain_can_go_on(guild), guild)

    def test_nearly_what_is_told(self):
        for guild in ENDLESS[:5]:
            _, lead, around = verdict(guild)
            nears = [(lead[:at] + lead[at + 1:], around) for at in range(len(lead))]
            nears += [(lead, around[:at] + around[at + 1:]) for at in range(len(around))]
            nears += [(lead, around[:at] + [turn] + around[at:]) for at in range(len(around)) for turn in plain_turns(guild)]
            nears += [(lead + around, around), (lead, around + around), (lead, around[1:] + around[:1])]
            for one, other in nears:
                self.assertIs(is_endless(guild, one, other), plain_is_endless(guild, one, other))

    def test_large_guilds(self):
        kinds = set()
        for guild in large_guilds(143, 15):
            began = time.perf_counter()
            told = refused(verdict, guild)
            self.assertLess(time.perf_counter() - began, 10)
            kinds.add(told[0])
            if told[0] == "TooMany":
                self.assertEqual(told, ("TooMany", STANDS))
            elif told[0] == "safe":
                self.assertIs(is_calm(guild, told[1]), True)
            else:
                self.assertIs(is_endless(guild, *told[1:]), True)
        self.assertEqual(kinds, {"safe", "endless", "TooMany"})

    def test_many_stands(self):
        began = time.perf_counter()
        self.assertEqual(refused(verdict, MANY), ("TooMany", 1000))
        self.assertEqual(verdict(THRICE_TWO_MINDS)[0], "endless")
        self.assertIs(is_calm(STAIRS, verdict(STAIRS, most=2000)[1]), True)
        self.assertLess(time.perf_counter() - began, 20)


class TestRests(Verdicts):
    def test_none(self):
        self.assertEqual(rests(THREE_MINDS), [])
        self.assertEqual(rests(FIVE_MINDS), [])

    def test_one(self):
        self.assertEqual(rests(ALONE), [((0,), ())])
        self.assertEqual(rests(PAIR), [((0,), (1, 0))])
        self.assertEqual(rests(CALMED), [((0,), (1, 3, 0), (2, 0), (3, 0))])
        self.assertEqual(rests(SEVEN), [((0,),) + tuple((house, 0) for house in range(1, 7))])

    def test_several_rising(self):
        self.assertEqual(rests(TWO_MINDS), [((0,), (1, 0), (2, 1, 0)), ((0,), (1, 2, 0), (2, 0))])
        self.assertEqual(len(rests(TWICE_TWO_MINDS)), 4)
        self.assertEqual(len(rests(THRICE_TWO_MINDS)), 8)

    def test_every_small_guild(self):
        counts = set()
        for guild in list(ALL_SAMPLES) + RANDOM:
            right = [stand for stand in plain_reached(guild) if plain_steady(guild, stand)]
            self.assertEqual(repr(rests(guild)), repr(right))
            counts.add(len(right))
        self.assertLessEqual({0, 1, 2, 4}, counts)

    def test_all_steady_stands(self):
        # From the hall on, house by house, each has just its steady way to choose; so a run leads to each of them.
        for guild in list(ALL_SAMPLES) + RANDOM:
            self.assertEqual(rests(guild), steady_stands(guild))


class TestMost(Verdicts):
    def test_as_many_as_there_are(self):
        for guild in list(ALL_SAMPLES) + RANDOM[:20]:
            count = len(reached(guild))
            for asked in (verdict, rests):
                right = asked(guild)
                self.assertEqual(asked(guild, most=count), right)
                self.assertEqual(asked(guild, most=count + 1), right)
                self.assertEqual(asked(guild, most=STANDS), right)
                if count > 1:
                    self.assertEqual(refused(asked, guild, most=count - 1), ("TooMany", count - 1))
                    self.assertEqual(refused(asked, guild, most=1), ("TooMany", 1))

    def test_left_out(self):
        for asked in (verdict, rests):
            self.assertEqual(refused(asked, MANY), ("TooMany", 1000))
            self.assertEqual(refused(asked, STAIRS), ("TooMany", 1000))
            self.assertEqual(refused(asked, STAIRS, most=999), ("TooMany", 999))

    def test_by_name_alone(self):
        for asked in (verdict, rests):
            with self.assertRaises(TypeError):
                asked(TWO_MINDS, 5)


class TestNothingChanged(Verdicts):
    def test_new_lists_each_time(self):
        for guild in (TWO_MINDS, CALMED, THREE_MINDS, CHAIN):
            one, other = verdict(guild), verdict(guild)
            shown = repr(other)
            for part in one[1:]:
                part.append(None)
                part.reverse()
            self.assertEqual(repr(other), shown)
            self.assertEqual(repr(verdict(guild)), shown)
            one, other = rests(guild), rests(guild)
            self.assertIs(type(one), list)
            shown = repr(other)
            one.append(None)
            self.assertEqual(repr(other), shown)
            self.assertEqual(repr(rests(guild)), shown)

    def test_guild_is_as_it_was(self):
        for guild in ALL_SAMPLES:
            shown = repr(guild)
            one = verdict(guild), rests(guild)
            refused(verdict, guild, most=1)
            self.assertEqual((verdict(guild), rests(guild)), one)
            self.assertEqual(repr(guild), shown)


if __name__ == "__main__":
    unittest.main()

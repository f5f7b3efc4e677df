"""Points 16 and 17: the fewest ways to be dropped, and rings that show it; points 2 and 3 as far as they speak of these."""

import time
import unittest
from itertools import combinations, product
from random import Random

from guild_samples import (
    ALL_SAMPLES, ALONE, CALMED, FAR_SPOKE, FIVE_MINDS, FOUR_MINDS, MANY, NO_LIKES, PAIR, SEVEN, SIX_MINDS, STAIRS,
    THREE_MINDS, THRICE_TWO_MINDS, TWICE_TWO_MINDS, TWO_MINDS, TWO_RINGS, WITH_ORDER, random_guilds, ways_of,
)
from likedways.drops import is_least, least_drop
from likedways.guilds import dropped, is_guild
from likedways.orders import is_ring, order_or_ring
from odd_things import MORE_DEEP_THINGS, ODD_THINGS, loosened, with_place
from plain_answers import plain_is_ring, plain_liked, plain_rings
from plain_likings import plain_free, plain_is_least, plain_least_ways, plain_meets
from refusals import refused

K4 = tuple(combinations(range(4), 2))
# Three houses that each like to go over either other one better than their own road: rings that share ways.
SHARED = (
    4, K4,
    (
        ((1, 2, 0), (1, 3, 0), (1, 0)),
        ((2, 3, 0), (2, 1, 0), (2, 0)),
        ((3, 1, 0), (3, 2, 0), (3, 0)),
    ),
)
RANDOM = [guild for guild in random_guilds(161, 150, (3, 4, 5), 3) if len(plain_liked(guild)) <= 9]
SMALL = [guild for guild in ALL_SAMPLES if len(plain_liked(guild)) <= 8] + [SHARED] + RANDOM
TWO_MINDS_RING = [((1, 0), (1, 2, 0)), ((2, 0), (2, 1, 0))]


def some_kept(chance, guild):
    """Some liked ways, some others, some of them twice."""
    share = chance.choice((0.35, 0.9))
    ways = [way for way in plain_liked(guild) if chance.random() < share]
    return tuple(ways + [(9, 0), ()] + ways[:1])


def guild_of_ways(many, picked):
    """The guild of so many houses, all joined, that like the picked ways in the order in which they are picked."""
    likes = tuple(tuple(way for way in picked if way[0] == house) for house in range(1, many))
    return (many, tuple(combinations(range(many), 2)), likes)


def twelve_ways(chance, many):
    near = [way for house in range(1, many) for way in ways_of(house, many, tuple(combinations(range(many), 2)))]
    near = sorted(near, key=lambda way: len(way) + 2.5 * chance.random())[:24]
    while True:
        guild = guild_of_ways(many, chance.sample(near, 12))
        if is_guild(guild):
            return guild


class TestLeastDrop(unittest.TestCase):
    def test_nothing_where_there_is_an_order(self):
        for guild in WITH_ORDER:
            if len(plain_liked(guild)) <= 12:
                self.assertEqual(repr(least_drop(guild)), "([], [])")

    def test_one_ring(self):
        self.assertEqual(least_drop(TWO_MINDS)[0], [(1, 0)])
        self.assertEqual(least_drop(THREE_MINDS)[0], [(1, 0)])
        self.assertEqual(least_drop(FAR_SPOKE)[0], [(1, 0)])
        self.assertEqual(least_drop(CALMED)[0], [(1, 0)])
        self.assertEqual(least_drop(SIX_MINDS)[0], [(1, 0)])
        self.assertTrue(plain_is_ring(TWO_MINDS, least_drop(TWO_MINDS)[1][0]))

    def test_rings_that_share_no_way(self):
        self.assertEqual(least_drop(TWICE_TWO_MINDS)[0], [(1, 0), (3, 0)])
        self.assertEqual(least_drop(TWO_RINGS)[0], [(1, 0), (4, 0)])
        self.assertEqual(least_drop(THRICE_TWO_MINDS)[0], [(1, 0), (3, 0), (5, 0)])

    def test_rings_that_share_ways(self):
        ways, rings = least_drop(SHARED)
        self.assertEqual(ways, plain_least_ways(SHARED)[0])
        self.assertEqual(ways, [(1, 0), (2, 0)])
        self.assertTrue(plain_is_least(SHARED, ways, rings))

    def test_the_first_of_several(self):
        for guild in SMALL:
            self.assertEqual(repr(least_drop(guild)[0]), repr(plain_least_ways(guild)[0]))
        self.assertTrue(any(len(plain_least_ways(guild)) > 3 for guild in SMALL))
        self.assertLessEqual({0, 1, 2}, {len(least_drop(guild)[0]) for guild in SMALL})

    def test_the_first_as_lists_compare_not_in_the_order_of_liking(self):
        guild = (3, TWO_MINDS[1], (((1, 2, 0), (1, 0)), ((2, 1, 0), (2, 0))))
        self.assertEqual(least_drop(guild, kept=((1, 0),))[0], [(1, 2, 0)])
        self.assertEqual(least_drop(guild, kept=((1, 0), (1, 2, 0)))[0], [(2, 0)])

    def test_rings_show_that_fewer_will_not_do(self):
        for guild in SMALL:
            ways, rings = least_drop(guild)
            self.assertIs(type(rings), list)
            for ring in rings:
                self.assertTrue(plain_is_ring(guild, ring))
                self.assertIs(is_ring(guild, ring), True)
            fewer = [row for size in range(len(ways)) for row in combinations(plain_liked(guild), size)]
            self.assertFalse(any(plain_meets(row, rings) for row in fewer))
            self.assertTrue(plain_meets(ways, rings))

    def test_an_order_is_left_and_fewer_leave_none(self):
        for guild in SMALL:
            ways, _ = least_drop(guild)
            self.assertEqual(order_or_ring(dropped(guild, ways))[0], "order")
            for fewer in combinations(plain_liked(guild), max(0, len(ways) - 1)):
                if ways:
                    self.assertEqual(order_or_ring(dropped(guild, list(fewer)))[0], "ring")


class TestKept(unittest.TestCase):
    def test_kept_ways_change_what_is_dropped(self):
        self.assertEqual(least_drop(TWO_MINDS, kept=((1, 0),))[0], [(1, 2, 0)])
        self.assertEqual(least_drop(TWO_MINDS, kept=((1, 0), (1, 2, 0), (2, 1, 0)))[0], [(2, 0)])
        self.assertEqual(least_drop(TWO_MINDS, kept=((2, 0),))[0], [(1, 0)])
        self.assertEqual(
            least_drop(TWICE_TWO_MINDS, kept=((1, 0), (3, 0), (3, 4, 0)))[0], [(1, 2, 0), (4, 0)],
        )

    def test_kept_ways_that_make_it_more(self):
        # Without a kept way one is enough; the own road of house 1 stands in both rings.
        guild = (
            4, ((0, 1), (0, 2), (0, 3), (1, 2), (1, 3)),
            (((1, 2, 0), (1, 3, 0), (1, 0)), ((2, 1, 0), (2, 0)), ((3, 1, 0), (3, 0))),
        )
        self.assertEqual(least_drop(guild)[0], [(1, 0)])
        ways, rings = least_drop(guild, kept=((1, 0),))
        self.assertEqual(ways, plain_least_ways(guild, ((1, 0),))[0])
        self.assertEqual(len(ways), 2)
        self.assertTrue(plain_is_least(guild, ways, rings, ((1, 0),)))

    def test_kept_ones_that_are_not_liked_and_told_twice(self):
        plain = least_drop(TWO_MINDS)
        for kept in ((), ((),), ((7, 8),), ((-1,), (2, 3, 0)), ((1,), (0,), (0, 1))):
            self.assertEqual(least_drop(TWO_MINDS, kept=kept), plain)
        self.assertEqual(least_drop(TWO_MINDS, kept=((1, 0), (1, 0), (9,)))[0], [(1, 2, 0)])

    def test_every_small_guild(self):
        chance = Random(162)
        told = set()
        for guild in SMALL * 2:
            kept = some_kept(chance, guild)
            good = plain_least_ways(guild, kept)
            answer = refused(least_drop, guild, kept=kept)
            if good:
                ways, rings = answer
                self.assertEqual(ways, good[0])
                self.assertTrue(plain_is_least(guild, ways, rings, kept))
                self.assertIs(is_least(guild, ways, rings, kept=kept), True)
                told.add(len(ways))
            else:
                self.assertEqual(answer, "NoOrder")
                told.add("NoOrder")
        self.assertLessEqual({0, 1, 2, "NoOrder"}, told)

    def test_no_order(self):
        all_kept = tuple(plain_liked(TWO_MINDS))
        self.assertEqual(refused(least_drop, TWO_MINDS, kept=all_kept), "NoOrder")
        self.assertEqual(refused(least_drop, TWICE_TWO_MINDS, kept=all_kept), "NoOrder")
        self.assertEqual(refused(least_drop, CALMED, kept=all_kept), "NoOrder")
        self.assertEqual(refused(least_drop, PAIR, kept=((1, 0),)), ([], []))

    def test_by_name_alone(self):
        with self.assertRaises(TypeError):
            least_drop(TWO_MINDS, ())
        with self.assertRaises(TypeError):
            is_least(TWO_MINDS, [], [], ())


class TestTooMany(unittest.TestCase):
    def test_twelve_and_thirteen(self):
        twelve = dropped(SEVEN, plain_liked(SEVEN)[12:])
        thirteen = dropped(SEVEN, plain_liked(SEVEN)[13:])
        self.assertEqual(least_drop(twelve), ([], []))
        self.assertEqual(refused(least_drop, thirteen), ("TooMany", 13))
        self.assertIs(is_least(twelve, [], []), True)
        self.assertEqual(refused(is_least, thirteen, [], []), ("TooMany", 13))
        self.assertEqual(least_drop(THRICE_TWO_MINDS)[0], [(1, 0), (3, 0), (5, 0)])

    def test_many_is_how_many_liked_ways_there_are(self):
        for guild, count in ((SEVEN, 36), (MANY, 36), (STAIRS, 21)):
            self.assertEqual(refused(least_drop, guild), ("TooMany", count))
            self.assertEqual(refused(is_least, guild, [], []), ("TooMany", count))

    def test_ahead_of_no_order(self):
        kept = tuple(plain_liked(MANY))
        self.assertEqual(refused(least_drop, MANY, kept=kept), ("TooMany", 36))

    def test_kept_ways_count_too(self):
        thirteen = dropped(SEVEN, plain_liked(SEVEN)[13:])
        kept = tuple(plain_liked(thirteen)[:5])
        self.assertEqual(refused(least_drop, thirteen, kept=kept), ("TooMany", 13))
        self.assertEqual(refused(is_least, thirteen, [], [], kept=kept), ("TooMany", 13))

    def test_whatever_two_things_are_asked_about(self):
        for thing in ODD_THINGS:
            self.assertEqual(refused(is_least, SEVEN, thing, thing), ("TooMany", 36))


class TestIsLeast(unittest.TestCase):
    def test_what_is_told(self):
        for guild in SMALL:
            ways, rings = least_drop(guild)
            self.assertIs(is_least(guild, ways, rings), True)

    def test_others_with_as_few(self):
        for guild in SMALL:
            _, rings = least_drop(guild)
            for ways in plain_least_ways(guild):
                self.assertIs(is_least(guild, ways, rings), True)
        for way in plain_liked(TWO_MINDS):
            self.assertIs(is_least(TWO_MINDS, [way], [TWO_MINDS_RING]), True)

    def test_other_rings(self):
        turned = TWO_MINDS_RING[1:] + TWO_MINDS_RING[:1]
        self.assertIs(is_least(TWO_MINDS, [(2, 0)], [turned]), True)
        self.assertIs(is_least(TWO_MINDS, [(2, 0)], [turned, TWO_MINDS_RING, turned]), True)

    def test_one_way_more_or_less(self):
        self.assertIs(is_least(TWO_MINDS, [], [TWO_MINDS_RING]), False)
        self.assertIs(is_least(TWO_MINDS, [], []), False)
        self.assertIs(is_least(TWO_MINDS, [(1, 0), (2, 0)], [TWO_MINDS_RING]), False)
        self.assertIs(is_least(PAIR, [(1, 0)], []), False)
        for guild in SMALL:
            ways, rings = least_drop(guild)
            for at in range(len(ways)):
                self.assertIs(is_least(guild, ways[:at] + ways[at + 1:], rings), False)
            for way in plain_free(guild, ways):
                self.assertIs(is_least(guild, sorted(ways + [way]), rings), False)

    def test_not_rising_and_told_twice(self):
        ways, rings = least_drop(TWICE_TWO_MINDS)
        self.assertIs(is_least(TWICE_TWO_MINDS, ways, rings), True)
        self.assertIs(is_least(TWICE_TWO_MINDS, ways[::-1], rings), False)
        self.assertIs(is_least(TWICE_TWO_MINDS, ways + ways[-1:], rings), False)
        self.assertIs(is_least(TWO_MINDS, [(1, 0), (1, 0)], [TWO_MINDS_RING]), False)

    def test_kept_and_not_liked_ones(self):
        ring = [TWO_MINDS_RING]
        self.assertIs(is_least(TWO_MINDS, [(1, 0)], ring, kept=((2, 0), (2, 1, 0))), True)
        self.assertIs(is_least(TWO_MINDS, [(1, 0)], ring, kept=((1, 0),)), False)
        self.assertIs(is_least(TWO_MINDS, [(0,)], ring), False)
        self.assertIs(is_least(TWO_MINDS, [(0, 1)], ring), False)
        self.assertIs(is_least(TWO_MINDS, [(1, 0), (1, 3, 0)], ring), False)
        self.assertIs(is_least(NO_LIKES, [(1, 0)], []), False)

    def test_kept_ones_that_have_a_ring(self):
        kept = tuple(plain_liked(TWO_MINDS))
        self.assertIs(is_least(TWO_MINDS, [], [], kept=kept), False)
        self.assertIs(is_least(TWO_MINDS, [(1, 0)], [TWO_MINDS_RING], kept=kept), False)

    def test_a_ring_left_out_so_that_fewer_would_do(self):
        ways, _ = least_drop(TWICE_TWO_MINDS)
        rings = [TWO_MINDS_RING, [((3, 0), (3, 4, 0)), ((4, 0), (4, 3, 0))]]
        self.assertIs(is_least(TWICE_TWO_MINDS, ways, rings), True)
        for at in range(2):
            self.assertIs(is_least(TWICE_TWO_MINDS, ways, [rings[at]]), False)
            self.assertIs(is_least(TWICE_TWO_MINDS, ways, [rings[at], rings[at]]), False)
        self.assertIs(is_least(TWICE_TWO_MINDS, ways, []), False)

    def test_what_is_no_ring(self):
        for thing in ([], TWO_MINDS_RING[:1], TWO_MINDS_RING + TWO_MINDS_RING[:1], [(1, 0), (1, 2, 0)]):
            self.assertIs(is_least(TWO_MINDS, [(1, 0)], [thing]), False)
            self.assertIs(is_least(TWO_MINDS, [(1, 0)], [TWO_MINDS_RING, thing]), False)

    def test_every_list_of_ways_with_some_rings(self):
        chance = Random(163)
        seen = set()
        guilds = [guild for guild in SMALL if len(plain_liked(guild)) <= 6] + [CALMED, TWO_MINDS, THREE_MINDS]
        for guild in guilds:
            rings = plain_rings(guild)
            kept = chance.choice([(), some_kept(chance, guild)])
            for size in range(4):
                for ways in combinations(sorted(plain_liked(guild)), size):
                    some = chance.sample(rings, min(len(rings), chance.randint(0, 3)))
                    right = plain_is_least(guild, list(ways), some, kept)
                    self.assertIs(is_least(guild, list(ways), some, kept=kept), right)
                    seen.add((right, size))
        self.assertLessEqual({(True, 0), (True, 1), (False, 0), (False, 1), (False, 2)}, seen)

    def test_other_kinds_in_the_place_of_lists_tuples_and_numbers(self):
        for guild in (TWO_MINDS, TWICE_TWO_MINDS, SHARED):
            ways, rings = least_drop(guild)
            for odd in loosened(ways):
                self.assertIs(is_least(guild, odd, rings), False, odd)
            for odd in loosened(rings):
                self.assertIs(is_least(guild, ways, odd), False, odd)
        self.assertIs(is_least(TWO_MINDS, [(True, 0)], [TWO_MINDS_RING]), False)
        self.assertIs(is_least(TWO_MINDS, [(1, False)], [TWO_MINDS_RING]), False)
        self.assertIs(is_least(ALONE, (), []), False)
        self.assertIs(is_least(ALONE, [], ()), False)

    def test_things_of_all_kinds(self):
        things = ODD_THINGS + MORE_DEEP_THINGS
        for thing, other in product(things, repeat=2):
            self.assertIs(is_least(TWO_MINDS, thing, other), False)
        for thing in things:
            self.assertIs(is_least(TWO_MINDS, [(1, 0)], thing), False)
            self.assertIs(is_least(TWO_MINDS, thing, [TWO_MINDS_RING]), False)
            self.assertIs(is_least(TWO_MINDS, [thing], [TWO_MINDS_RING]), thing == (1, 0) and type(thing) is tuple)
            self.assertIs(is_least(TWO_MINDS, [(1, 0)], [thing]), False)
            self.assertIs(is_least(TWO_MINDS, [(1, 0)], [TWO_MINDS_RING, thing]), False)
            self.assertIs(is_least(TWO_MINDS, [(1, 0)], [with_place(TWO_MINDS_RING, 0, thing)]), False)
            self.assertIs(is_least(PAIR, thing, []), thing == [])


class TestLarge(unittest.TestCase):
    def test_twelve_ways_within_seconds(self):
        chance = Random(164)
        counts = set()
        guilds = [twelve_ways(chance, chance.choice((4, 4, 5, 6, 7))) for _ in range(60)]
        for guild in guilds + [THRICE_TWO_MINDS, SIX_MINDS, FOUR_MINDS, FIVE_MINDS]:
            began = time.perf_counter()
            ways, rings = least_drop(guild)
            self.assertIs(is_least(guild, ways, rings), True)
            self.assertLess(time.perf_counter() - began, 5)
            self.assertEqual(ways, plain_least_ways(guild)[0])
            self.assertTrue(plain_is_least(guild, ways, rings))
            counts.add(len(ways))
        self.assertLessEqual({0, 1, 2, 3}, counts)

    def test_hundreds_of_rings_within_seconds(self):
        rings = plain_rings(SHARED) * 40
        self.assertGreater(len(rings), 300)
        began = time.perf_counter()
        self.assertIs(is_least(SHARED, [(1, 0), (2, 0)], rings), True)
        self.assertLess(time.perf_counter() - began, 5)


class TestNothingChanged(unittest.TestCase):
    def test_new_lists_each_time(self):
        one, other = least_drop(TWICE_TWO_MINDS), least_drop(TWICE_TWO_MINDS)
        self.assertIs(type(one), tuple)
        self.assertIs(type(one[0]), list)
        shown = repr(other)
        one[0].clear()
        for ring in one[1]:
            ring.clear()
        one[1].clear()
        self.assertEqual(repr(other), shown)
        self.assertEqual(repr(least_drop(TWICE_TWO_MINDS)), shown)
        _, rings = least_drop(TWICE_TWO_MINDS)
        rings[0].clear()
        self.assertTrue(all(rings[1:]))

    def test_what_was_handed_in_is_as_it_was(self):
        for guild in SMALL:
            kept = tuple(plain_liked(guild)[:1])
            ways, rings = least_drop(guild)
            shown = repr((guild, kept, ways, rings))
            refused(least_drop, guild, kept=kept)
            first = is_least(guild, ways, rings, kept=kept)
            self.assertIs(is_least(guild, ways, rings, kept=kept), first)
            self.assertEqual(repr((guild, kept, ways, rings)), shown)
            self.assertEqual(least_drop(guild), (ways, rings))


if __name__ == "__main__":
    unittest.main()

"""Points 9 and 10: orders and rings; points 2 and 3 as far as they speak of these."""

import copy
import unittest
from itertools import combinations, permutations, product
from random import Random

from guild_samples import (
    ALL_SAMPLES, ALONE, CALMED, CHAIN, FAR_SPOKE, FIVE_MINDS, FOUR_MINDS, NO_LIKES, PAIR, SEVEN, SEVEN_BARE, SIX_MINDS,
    SQUARE, THREE_MINDS, TWICE_TWO_MINDS, TWO_MINDS, TWO_RINGS, WITH_ORDER, WITH_RING, full_guild, random_guild,
    random_guilds,
)
from likedways.errors import NoOrder, WayError
from likedways.guilds import dropped, without
from likedways.orders import first_order, is_order, is_ring, order_or_ring, shortest_ring
from odd_things import MORE_DEEP_THINGS, ODD_THINGS, loosened, with_place
from plain_answers import plain_is_order, plain_is_ring, plain_liked, plain_orders, plain_rings

TWO_MINDS_RING = [((1, 0), (1, 2, 0)), ((2, 0), (2, 1, 0))]
THREE_MINDS_RING = [((1, 0), (1, 2, 0)), ((2, 0), (2, 3, 0)), ((3, 0), (3, 1, 0))]
SQUARE_ORDER = [(3, 0), (2, 3, 0), (1, 2, 3, 0), (1, 0), (2, 1, 0)]
# House 1 likes one way better than two others, and each of these two is an end of what another house likes.
TWO_SPOKES = (
    5,
    ((0, 1), (0, 2), (0, 3), (0, 4), (1, 2), (1, 3), (1, 4), (2, 3)),
    (
        ((1, 2, 3, 0), (1, 4, 0), (1, 0)),
        ((2, 1, 0), (2, 3, 0)),
        ((3, 1, 4, 0), (3, 0)),
        ((4, 0),),
    ),
)
RANDOM = random_guilds(91, 150, (2, 3, 4, 5), 3)
FEW_WAYS = [guild for guild in ALL_SAMPLES + tuple(RANDOM) if len(plain_liked(guild)) <= 7]
LARGE = random_guilds(92, 40, (6, 7), 6)


def ways_in_a_row(guild):
    """All liked ways in an order that takes the least one that may come, found by trying one behind the other."""
    left, row = sorted(plain_liked(guild)), []
    while left:
        for way in left:
            others = [one for one in left if one != way]
            liked = guild[2][way[0] - 1]
            better = liked[:liked.index(way)]
            if not any(one in better or way[-len(one):] == one for one in others):
                row.append(way)
                left.remove(way)
                break
        else:
            return None
    return row


class Orders(unittest.TestCase):
    def yes_order(self, guild, thing):
        self.assertIs(is_order(guild, thing), True, repr((guild, thing))[:500])

    def no_order(self, guild, thing):
        self.assertIs(is_order(guild, thing), False, repr((guild, thing))[:500])

    def yes_ring(self, guild, thing):
        self.assertIs(is_ring(guild, thing), True, repr((guild, thing))[:500])

    def no_ring(self, guild, thing):
        self.assertIs(is_ring(guild, thing), False, repr((guild, thing))[:500])


class TestIsOrder(Orders):
    def test_samples(self):
        self.yes_order(ALONE, [])
        self.yes_order(NO_LIKES, [])
        self.yes_order(PAIR, [(1, 0)])
        self.yes_order(SQUARE, SQUARE_ORDER)
        self.yes_order(CHAIN, [tuple(range(house, -1, -1)) for house in range(1, 7)])

    def test_one_left_out(self):
        self.no_order(PAIR, [])
        for at in range(len(SQUARE_ORDER)):
            self.no_order(SQUARE, SQUARE_ORDER[:at] + SQUARE_ORDER[at + 1:])

    def test_told_twice(self):
        self.no_order(PAIR, [(1, 0), (1, 0)])
        for at in range(len(SQUARE_ORDER)):
            self.no_order(SQUARE, SQUARE_ORDER + [SQUARE_ORDER[at]])
            self.no_order(SQUARE, SQUARE_ORDER[:at] + [SQUARE_ORDER[at]] + SQUARE_ORDER[at:])
            # As many as there should be, but one of them twice in the place of another one.
            for other in range(len(SQUARE_ORDER)):
                if other != at:
                    self.no_order(SQUARE, with_place(SQUARE_ORDER, at, SQUARE_ORDER[other]))

    def test_one_too_many(self):
        for odd in ((0,), (), (3, 2, 1, 0), (2, 3), (0, 3), (7, 0), (-1, 0)):
            self.no_order(SQUARE, SQUARE_ORDER + [odd])
            self.no_order(SQUARE, [odd] + SQUARE_ORDER)
        self.no_order(NO_LIKES, [(1, 0)])
        self.no_order(ALONE, [(0,)])

    def test_a_better_way_behind_a_worse_one(self):
        guild = (3, TWO_MINDS[1], (((1, 0), (1, 2, 0)), ()))
        self.yes_order(guild, [(1, 0), (1, 2, 0)])
        self.no_order(guild, [(1, 2, 0), (1, 0)])
        other = (3, TWO_MINDS[1], (((1, 2, 0), (1, 0)), ()))
        self.yes_order(other, [(1, 2, 0), (1, 0)])
        self.no_order(other, [(1, 0), (1, 2, 0)])

    def test_an_end_behind_what_it_is_an_end_of(self):
        guild = (4, SQUARE[1], (((1, 2, 3, 0),), (), ((3, 0),)))
        self.yes_order(guild, [(3, 0), (1, 2, 3, 0)])
        self.no_order(guild, [(1, 2, 3, 0), (3, 0)])
        guild = (4, SQUARE[1], ((), ((2, 3, 0),), ((3, 0),)))
        self.yes_order(guild, [(3, 0), (2, 3, 0)])
        self.no_order(guild, [(2, 3, 0), (3, 0)])

    def test_houses_in_the_middle_of_a_way_are_no_end(self):
        # (2, 1, 0) and (3, 2, 0) share houses with one another, but neither is an end of the other one.
        guild = (4, ((0, 1), (0, 2), (1, 2), (2, 3)), ((), ((2, 1, 0),), ((3, 2, 0),)))
        self.yes_order(guild, [(2, 1, 0), (3, 2, 0)])
        self.yes_order(guild, [(3, 2, 0), (2, 1, 0)])

    def test_put_elsewhere(self):
        for one, other in combinations(range(len(SQUARE_ORDER)), 2):
            row = list(SQUARE_ORDER)
            row[one], row[other] = row[other], row[one]
            self.assertIs(is_order(SQUARE, row), plain_is_order(SQUARE, row))
        self.no_order(SQUARE, SQUARE_ORDER[::-1])

    def test_no_list_of_a_guild_with_a_ring(self):
        for row in permutations(plain_liked(TWO_MINDS)):
            self.no_order(TWO_MINDS, list(row))
        for row in permutations(plain_liked(THREE_MINDS)):
            self.no_order(THREE_MINDS, list(row))

    def test_every_row_of_few_ways(self):
        for guild in FEW_WAYS:
            for row in list(permutations(plain_liked(guild)))[:720]:
                self.assertIs(is_order(guild, list(row)), plain_is_order(guild, list(row)))

    def test_shuffled_orders_of_large_guilds(self):
        chance = Random(93)
        found = 0
        for guild in LARGE + list(WITH_ORDER):
            row = ways_in_a_row(guild)
            if row is None or len(row) < 2:
                continue
            self.yes_order(guild, row)
            found += 1
            for _ in range(30):
                near = list(row)
                at = chance.randrange(len(near) - 1)
                near[at], near[at + 1] = near[at + 1], near[at]
                self.assertIs(is_order(guild, near), plain_is_order(guild, near))
        self.assertGreater(found, 5)

    def test_other_kinds_within(self):
        for guild in (PAIR, SQUARE, CHAIN):
            for odd in loosened(first_order(guild)):
                self.no_order(guild, odd)
        self.no_order(PAIR, [(True, 0)])
        self.no_order(PAIR, [(1, False)])
        self.no_order(PAIR, ((1, 0),))
        self.no_order(ALONE, ())

    def test_anything(self):
        for guild in (PAIR, TWO_MINDS, SQUARE, SEVEN):
            for odd in ODD_THINGS + MORE_DEEP_THINGS:
                self.no_order(guild, odd)
                self.no_order(guild, [odd] * len(plain_liked(guild)))
                self.no_order(guild, (odd,))
        for at in range(len(SQUARE_ORDER)):
            for odd in ODD_THINGS + MORE_DEEP_THINGS:
                self.no_order(SQUARE, with_place(SQUARE_ORDER, at, odd))
        for odd in ODD_THINGS + MORE_DEEP_THINGS:
            self.assertIs(is_order(ALONE, odd), type(odd) is list and not odd)


class TestIsRing(Orders):
    def test_samples(self):
        self.yes_ring(TWO_MINDS, TWO_MINDS_RING)
        self.yes_ring(TWO_MINDS, TWO_MINDS_RING[::-1])
        self.yes_ring(FAR_SPOKE, [((1, 0), (1, 2, 3, 0)), ((3, 0), (3, 1, 0))])
        for at in range(3):
            self.yes_ring(THREE_MINDS, THREE_MINDS_RING[at:] + THREE_MINDS_RING[:at])

    def test_rings_of_more_pairs(self):
        for size, guild in ((4, FOUR_MINDS), (5, FIVE_MINDS), (6, SIX_MINDS)):
            ring = [((house, 0), (house, house % size + 1, 0)) for house in range(1, size + 1)]
            self.yes_ring(guild, ring)
            self.no_ring(guild, ring[::-1])
            for at in range(size):
                self.no_ring(guild, ring[:at] + ring[at + 1:])

    def test_pairs_in_another_order(self):
        self.no_ring(THREE_MINDS, [THREE_MINDS_RING[at] for at in (0, 2, 1)])

    def test_one_pair_alone_and_none(self):
        self.no_ring(TWO_MINDS, [])
        for pair in TWO_MINDS_RING:
            self.no_ring(TWO_MINDS, [pair])

    def test_a_spoke_told_twice(self):
        self.no_ring(TWO_MINDS, TWO_MINDS_RING * 2)
        self.no_ring(THREE_MINDS, THREE_MINDS_RING * 2)
        # House 1 goes round by either of two ways that it likes better than its road.
        guild = (
            4, ((0, 1), (0, 2), (0, 3), (1, 2), (1, 3)),
            (((1, 2, 0), (1, 3, 0), (1, 0)), ((2, 1, 0), (2, 0)), ((3, 1, 0), (3, 0))),
        )
        one = [((1, 0), (1, 2, 0)), ((2, 0), (2, 1, 0))]
        other = [((1, 0), (1, 3, 0)), ((3, 0), (3, 1, 0))]
        self.yes_ring(guild, one)
        self.yes_ring(guild, other)
        self.no_ring(guild, one + other)

    def test_a_whole_may_come_twice(self):
        # Spokes alone are to be unlike.
        rings = plain_rings(TWO_SPOKES)
        self.assertTrue(any(len({whole for _, whole in ring}) < len(ring) for ring in rings))
        for ring in rings:
            self.yes_ring(TWO_SPOKES, ring)

    def test_whole_is_not_better(self):
        turned = (3, TWO_MINDS[1], (((1, 0), (1, 2, 0)), ((2, 1, 0), (2, 0))))
        self.no_ring(turned, TWO_MINDS_RING)
        self.no_ring(TWO_MINDS, [(whole, spoke) for spoke, whole in TWO_MINDS_RING])
        self.no_ring(TWO_MINDS, [(spoke, spoke) for spoke, _ in TWO_MINDS_RING])
        self.no_ring(TWO_MINDS, [(whole, whole) for _, whole in TWO_MINDS_RING])

    def test_way_that_is_not_liked(self):
        for way in plain_liked(TWO_MINDS):
            self.no_ring(dropped(TWO_MINDS, [way]), TWO_MINDS_RING)
        self.no_ring(TWO_MINDS, [((1, 0), (1, 2, 0)), ((2, 0), (1, 2, 0))])
        self.no_ring(PAIR, TWO_MINDS_RING)

    def test_spoke_and_whole_of_two_houses(self):
        self.no_ring(TWO_MINDS, [((1, 0), (2, 1, 0)), ((2, 0), (1, 2, 0))])
        self.no_ring(TWO_MINDS, [((1, 0), (2, 1, 0)), ((1, 0), (2, 1, 0))])

    def test_spoke_is_no_end_of_the_whole_ahead(self):
        # From house 3 one comes to house 1, but not from house 1 to house 3.
        self.no_ring(THREE_MINDS, [((1, 0), (1, 2, 0)), ((3, 0), (3, 1, 0))])
        self.no_ring(TWO_RINGS, [TWO_MINDS_RING[0], ((4, 0), (4, 5, 0))])
        # The last whole must come back to the first spoke.
        self.no_ring(THREE_MINDS, THREE_MINDS_RING[:2])
        self.no_ring(FOUR_MINDS, [((1, 0), (1, 2, 0)), ((2, 0), (2, 3, 0)), ((3, 0), (3, 4, 0))])

    def test_no_pairs(self):
        for odd in ((), ((1, 0),), ((1, 0), (1, 2, 0), (1, 2, 0)), [(1, 0), (1, 2, 0)], (1, 0), None, "", ((1, 0), None)):
            self.no_ring(TWO_MINDS, [odd, TWO_MINDS_RING[1]])
            self.no_ring(TWO_MINDS, [TWO_MINDS_RING[1], odd])

    def test_every_row_of_pairs(self):
        for guild in [TWO_MINDS, FAR_SPOKE, THREE_MINDS, CALMED] + RANDOM[:40]:
            liked = plain_liked(guild)
            pairs = list(product(liked, repeat=2))[:40]
            for row in list(product(pairs, repeat=2))[:1600]:
                self.assertIs(is_ring(guild, list(row)), plain_is_ring(guild, list(row)))

    def test_every_ring(self):
        found = 0
        for guild in list(WITH_RING) + RANDOM:
            for ring in plain_rings(guild)[:50]:
                self.yes_ring(guild, ring)
                found += 1
                for at in range(len(ring)):
                    near = ring[:at] + ring[at + 1:]
                    self.assertIs(is_ring(guild, near), plain_is_ring(guild, near))
                    near = ring[:at] + [ring[at]] + ring[at:]
                    self.no_ring(guild, near)
        self.assertGreater(found, 50)

    def test_other_kinds_within(self):
        for odd in loosened(TWO_MINDS_RING):
            self.no_ring(TWO_MINDS, odd)
        for odd in loosened(THREE_MINDS_RING):
            self.no_ring(THREE_MINDS, odd)
        self.no_ring(TWO_MINDS, [((True, 0), (1, 2, 0)), ((2, 0), (2, 1, 0))])
        self.no_ring(TWO_MINDS, [((1, 0), (1, 2, False)), ((2, 0), (2, 1, 0))])

    def test_anything(self):
        for guild in (PAIR, TWO_MINDS, SQUARE, SEVEN):
            for odd in ODD_THINGS + MORE_DEEP_THINGS:
                self.no_ring(guild, odd)
                self.no_ring(guild, [odd, odd])
                self.no_ring(guild, [(odd, odd), (odd, odd)])
                self.no_ring(guild, (odd, odd))
        for at in (0, 1):
            for odd in ODD_THINGS + MORE_DEEP_THINGS:
                self.no_ring(TWO_MINDS, with_place(TWO_MINDS_RING, at, odd))
                self.no_ring(TWO_MINDS, with_place(TWO_MINDS_RING, at, ((1, 0), odd)))
                self.no_ring(TWO_MINDS, with_place(TWO_MINDS_RING, at, (odd, (2, 1, 0))))


class TestOrderOrRing(Orders):
    def told(self, guild):
        told = order_or_ring(guild)
        self.assertIs(type(told), tuple)
        self.assertEqual(len(told), 2)
        self.assertIn(told[0], ("order", "ring"))
        (self.yes_order if told[0] == "order" else self.yes_ring)(guild, told[1])
        (self.no_ring if told[0] == "order" else self.no_order)(guild, told[1])
        right = plain_is_order(guild, told[1]) if told[0] == "order" else plain_is_ring(guild, told[1])
        self.assertIs(right, True)
        return told[0]

    def test_samples(self):
        for guild in WITH_ORDER:
            self.assertEqual(self.told(guild), "order")
        for guild in WITH_RING:
            self.assertEqual(self.told(guild), "ring")
        self.assertEqual(order_or_ring(ALONE), ("order", []))
        self.assertEqual(order_or_ring(PAIR), ("order", [(1, 0)]))

    def test_never_both(self):
        kinds = []
        for guild in FEW_WAYS:
            kind = self.told(guild)
            self.assertEqual(bool(plain_orders(guild)), kind == "order")
            self.assertEqual(bool(plain_rings(guild)), kind == "ring")
            kinds.append(kind)
        self.assertGreater(kinds.count("order"), 20)
        self.assertGreater(kinds.count("ring"), 5)

    def test_random_guilds(self):
        for guild in RANDOM:
            self.assertEqual(self.told(guild) == "ring", bool(plain_rings(guild)))

    def test_large_guilds(self):
        kinds = {self.told(guild) for guild in LARGE}
        self.assertEqual(kinds, {"order", "ring"})
        chance = Random(94)
        for guild in [random_guild(chance, 7, 6) for _ in range(20)] + [full_guild(chance) for _ in range(20)]:
            self.assertEqual(self.told(guild) == "order", ways_in_a_row(guild) is not None)

    def test_order_stays_whatever_is_taken_away(self):
        for guild in WITH_ORDER:
            for road in guild[1]:
                self.assertEqual(self.told(without(guild, [road])), "order")
            for way in plain_liked(guild):
                self.assertEqual(self.told(dropped(guild, [way])), "order")

    def test_new_list_each_time(self):
        for guild in (SQUARE, TWO_MINDS, CHAIN, SIX_MINDS):
            one, other = order_or_ring(guild), order_or_ring(guild)
            self.assertIs(type(one[1]), list)
            shown = repr(other)
            one[1].clear()
            self.assertEqual(repr(other), shown)
            self.assertEqual(repr(order_or_ring(guild)), shown)


class TestFirstOrder(Orders):
    def test_first_of_several(self):
        self.assertEqual(first_order(SEVEN)[:7], [(1, 0), (2, 0), (1, 2, 0), (2, 1, 0), (3, 0), (1, 3, 0), (2, 3, 0)])
        guild = (4, ((0, 1), (0, 2), (0, 3)), (((1, 0),), ((2, 0),), ((3, 0),)))
        self.assertEqual(len(plain_orders(guild)), 6)
        self.assertEqual(first_order(guild), [(1, 0), (2, 0), (3, 0)])

    def test_a_lesser_way_waits(self):
        self.assertEqual(first_order(SQUARE), SQUARE_ORDER)
        # (2, 3, 0) is less than (3, 0), which must come ahead of it; (1, 0) needs neither.
        guild = (4, ((0, 1), (0, 3), (2, 3)), (((1, 0),), ((2, 3, 0),), ((3, 0),)))
        self.assertEqual(first_order(guild), [(1, 0), (3, 0), (2, 3, 0)])

    def test_a_better_way_may_be_the_greater_one(self):
        guild = (3, TWO_MINDS[1], (((1, 2, 0), (1, 0)), ((2, 0),)))
        self.assertEqual(first_order(guild), [(2, 0), (1, 2, 0), (1, 0)])

    def test_none_to_put_in_order(self):
        self.assertEqual(first_order(ALONE), [])
        self.assertEqual(first_order(SEVEN_BARE), [])

    def test_few_ways(self):
        several = 0
        for guild in FEW_WAYS:
            orders = plain_orders(guild)
            several += len(orders) > 1
            if orders:
                self.assertEqual(repr(first_order(guild)), repr(min(orders)))
            else:
                self.assertRaises(NoOrder, first_order, guild)
        self.assertGreater(several, 10)

    def test_large_guilds(self):
        for guild in LARGE:
            right = ways_in_a_row(guild)
            if right is None:
                self.assertRaises(NoOrder, first_order, guild)
            else:
                self.assertEqual(first_order(guild), right)

    def test_no_order(self):
        for guild in WITH_RING:
            with self.assertRaises(WayError) as caught:
                first_order(guild)
            self.assertIs(type(caught.exception), NoOrder)

    def test_new_list_each_time(self):
        for guild in (ALONE, SQUARE, SEVEN):
            one, other = first_order(guild), first_order(guild)
            self.assertIs(type(one), list)
            shown = repr(other)
            one.insert(0, None)
            self.assertEqual(repr(other), shown)
            self.assertEqual(repr(first_order(guild)), shown)


class TestShortestRing(Orders):
    def test_samples(self):
        for guild in WITH_ORDER:
            self.assertEqual(shortest_ring(guild), 0)
        for guild, size in (
            (TWO_MINDS, 2), (THREE_MINDS, 3), (FOUR_MINDS, 4), (FIVE_MINDS, 5), (SIX_MINDS, 6),
            (CALMED, 2), (TWICE_TWO_MINDS, 2), (FAR_SPOKE, 2),
        ):
            self.assertEqual(shortest_ring(guild), size)
            self.assertIs(type(shortest_ring(guild)), int)

    def test_the_shorter_one_of_two(self):
        self.assertEqual(shortest_ring(TWO_RINGS), 2)
        self.assertEqual(shortest_ring(dropped(TWO_RINGS, [(4, 0)])), 3)
        self.assertEqual(shortest_ring(dropped(TWO_RINGS, [(4, 0), (2, 0)])), 0)
        self.assertEqual(shortest_ring(dropped(TWO_RINGS, [(1, 2, 0)])), 2)

    def test_random_guilds(self):
        sizes = set()
        for guild in RANDOM + list(WITH_RING):
            right = min([len(ring) for ring in plain_rings(guild)], default=0)
            self.assertEqual(shortest_ring(guild), right)
            sizes.add(right)
        self.assertLessEqual({0, 2, 3, 4, 5, 6}, sizes)

    def test_zero_just_where_there_is_an_order(self):
        for guild in LARGE:
            self.assertEqual(shortest_ring(guild) == 0, ways_in_a_row(guild) is not None)
            self.assertNotEqual(shortest_ring(guild), 1)


class TestNothingChanged(Orders):
    def test_thing_is_as_it_was(self):
        for thing in (
            SQUARE_ORDER[::-1], TWO_MINDS_RING[::-1], [[1, 0], [(1, 2, 0)]], [(2, 0), (1, 0)],
            [[(1, 0), (1, 2, 0)], [(2, 0), (2, 1, 0)]], [[[]]],
        ):
            before = copy.deepcopy(thing)
            for guild in (SQUARE, TWO_MINDS, SEVEN):
                is_order(guild, thing)
                is_ring(guild, thing)
            self.assertEqual(repr(thing), repr(before))

    def test_guild_is_as_it_was_and_the_same_is_told_again(self):
        for guild in ALL_SAMPLES:
            shown = repr(guild)
            one = order_or_ring(guild), shortest_ring(guild)
            self.assertEqual((order_or_ring(guild), shortest_ring(guild)), one)
            self.assertEqual(repr(guild), shown)


if __name__ == "__main__":
    unittest.main()

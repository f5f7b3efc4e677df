"""Points 18 and 19: nets, worths and the guilds of nets; points 2 and 3 as far as they speak of these."""

import time
import unittest
from functools import cmp_to_key
from itertools import combinations
from random import Random

from guild_samples import ALL_ROADS, ways_of
from likedways.bounds import LIKED
from likedways.guilds import is_guild
from likedways.nets import guild_of_net, is_net, worth
from likedways.orders import is_order, order_or_ring
from odd_things import MORE_DEEP_THINGS, ODD_THINGS, loosened, with_place
from plain_likings import plain_before, plain_has_order, plain_worth
from refusals import refused

RULES = ("short", "wide", "few")
BARE = (2, ())
LINE = (2, ((0, 1, 5, 7),))
TRIANGLE = (3, ((0, 1, 10, 4), (0, 2, 3, 2), (1, 2, 4, 9)))
# The hall far off: two ways round a square of the same length.
SQUARE_NET = (4, ((0, 1, 2, 5), (0, 3, 2, 5), (1, 2, 3, 6), (2, 3, 3, 6)))
# All rows alike, so that only the houses decide.
EVEN = (7, tuple((one, other, 1, 1) for one, other in ALL_ROADS))


def random_net(chance, many, share=0.8, top=99):
    rows = tuple(
        (one, other, chance.randint(1, top), chance.randint(1, top))
        for one, other in combinations(range(many), 2) if chance.random() < share
    )
    return (many, rows)


def random_nets(seed, count, sizes, top):
    chance = Random(seed)
    return [random_net(chance, chance.choice(sizes), chance.choice((0.5, 0.8, 1)), top) for _ in range(count)]


# Small measures tie often, large ones hardly ever.
NETS = [BARE, LINE, TRIANGLE, SQUARE_NET] + random_nets(181, 40, (2, 3, 4, 5), 3) + random_nets(182, 20, (3, 4, 5), 99)


def plain_guild(net, rule, most):
    roads = tuple(row[:2] for row in net[1])
    likes = []
    for house in range(1, net[0]):
        ways = ways_of(house, net[0], roads)
        ways.sort(key=cmp_to_key(lambda one, other: -1 if plain_before(net, rule, one, other) else 1))
        likes.append(tuple(ways[:most]))
    return (net[0], roads, tuple(likes))


class TestIsNet(unittest.TestCase):
    def test_nets(self):
        for net in NETS + [EVEN, (7, ())]:
            self.assertIs(is_net(net), True)
        for many in range(2, 8):
            self.assertIs(is_net((many, ())), True)
            self.assertIs(is_net((many, ((0, many - 1, 99, 1),))), True)
            self.assertIs(is_net((many, ((0, many, 1, 1),))), False)

    def test_how_many_houses(self):
        for many in (-1, 0, 1, 8, 10 ** 39, True, False, None, "3", (3,)):
            self.assertIs(is_net((many, ())), False)

    def test_lengths_and_widths(self):
        for measure, good in ((0, False), (1, True), (2, True), (98, True), (99, True), (100, False), (-1, False)):
            self.assertIs(is_net((2, ((0, 1, measure, 5),))), good)
            self.assertIs(is_net((2, ((0, 1, 5, measure),))), good)
        for measure in (True, False, None, "5", 10 ** 39, (5,), [5]):
            self.assertIs(is_net((2, ((0, 1, measure, 5),))), False)
            self.assertIs(is_net((2, ((0, 1, 5, measure),))), False)

    def test_houses_of_rows(self):
        for row in ((1, 0, 5, 5), (0, 0, 5, 5), (1, 1, 5, 5), (-1, 1, 5, 5), (0, 2, 5, 5), (0, True, 5, 5),
                    (False, 1, 5, 5), ("0", 1, 5, 5), (0, None, 5, 5)):
            self.assertIs(is_net((2, (row,))), False)

    def test_rows_that_are_not_rising(self):
        rows = TRIANGLE[1]
        self.assertIs(is_net((3, rows)), True)
        self.assertIs(is_net((3, rows[::-1])), False)
        self.assertIs(is_net((3, (rows[1], rows[0], rows[2]))), False)

    def test_two_rows_of_one_pair(self):
        self.assertIs(is_net((2, ((0, 1, 5, 5), (0, 1, 5, 5)))), False)
        self.assertIs(is_net((2, ((0, 1, 5, 5), (0, 1, 6, 5)))), False)
        self.assertIs(is_net((2, ((0, 1, 5, 5), (0, 1, 5, 6)))), False)
        self.assertIs(is_net((2, ((0, 1, 5, 5), (1, 0, 5, 6)))), False)

    def test_sizes(self):
        for thing in ((), (2,), (2, (), ()), (2, ((0, 1, 5),)), (2, ((0, 1, 5, 5, 5),)), (2, ((0, 1),)), (2, ((),))):
            self.assertIs(is_net(thing), False)

    def test_other_kinds_in_the_place_of_tuples_and_numbers(self):
        for net in (BARE, LINE, TRIANGLE, (2, ((0, 1, 1, 1),))):
            for odd in loosened(net):
                self.assertIs(is_net(odd), False, odd)

    def test_things_of_all_kinds(self):
        for thing in ODD_THINGS + MORE_DEEP_THINGS:
            self.assertIs(is_net(thing), False)
            self.assertIs(is_net((3, thing)), thing == () and type(thing) is tuple)
            self.assertIs(is_net((3, (thing,))), False)
            self.assertIs(is_net((3, TRIANGLE[1][:2] + (thing,))), False)
            self.assertIs(is_net((thing, ())), thing in (2, 3) and type(thing) is int)
            for at in range(4):
                row = with_place((0, 2, 5, 5), at, thing)
                whole = type(thing) is int
                good = (at == 0 and whole and thing in (0, 1)) or (at == 1 and whole and thing in (1, 2)) or (
                    at > 1 and whole and thing in (1, 2, 3))
                self.assertIs(is_net((3, (row,))), good, row)


class TestWorth(unittest.TestCase):
    def test_two_houses(self):
        self.assertEqual(worth(LINE, (1, 0)), (5, 7))
        self.assertEqual(worth(LINE, (0, 1)), (5, 7))
        self.assertIs(type(worth(LINE, (1, 0))), tuple)

    def test_more_houses(self):
        self.assertEqual(worth(TRIANGLE, (1, 2, 0)), (7, 2))
        self.assertEqual(worth(TRIANGLE, (2, 1, 0)), (14, 4))
        self.assertEqual(worth(SQUARE_NET, (1, 2, 3, 0)), (8, 5))

    def test_of_what_is_no_way_to_the_hall(self):
        self.assertEqual(worth(TRIANGLE, (1, 2)), (4, 9))
        self.assertEqual(worth(TRIANGLE, (2, 0, 1)), (13, 2))
        self.assertEqual(worth(SQUARE_NET, (0, 3, 2, 1)), (8, 5))

    def test_greatest_and_least(self):
        net = (7, tuple((house, house + 1, 99, 99 - house) for house in range(6)))
        self.assertEqual(worth(net, (6, 5, 4, 3, 2, 1, 0)), (594, 94))
        self.assertEqual(worth(EVEN, (6, 5, 4, 3, 2, 1, 0)), (6, 1))

    def test_every_way(self):
        for net in NETS:
            for house in range(1, net[0]):
                for way in ways_of(house, net[0], tuple(row[:2] for row in net[1])):
                    self.assertEqual(worth(net, way), plain_worth(net, way))
                    self.assertEqual(worth(net, way[::-1]), plain_worth(net, way))


class TestGuildOfNet(unittest.TestCase):
    def test_samples(self):
        self.assertEqual(guild_of_net(BARE), (2, (), ((),)))
        self.assertEqual(guild_of_net(LINE), (2, ((0, 1),), (((1, 0),),)))
        roads = ((0, 1), (0, 2), (1, 2))
        self.assertEqual(
            guild_of_net(TRIANGLE), (3, roads, (((1, 2, 0), (1, 0)), ((2, 0), (2, 1, 0)))),
        )
        self.assertEqual(
            guild_of_net(TRIANGLE, rule="wide"), (3, roads, (((1, 0), (1, 2, 0)), ((2, 1, 0), (2, 0)))),
        )
        self.assertEqual(
            guild_of_net(TRIANGLE, rule="few"), (3, roads, (((1, 0), (1, 2, 0)), ((2, 0), (2, 1, 0)))),
        )

    def test_short_is_meant_where_no_rule_is_told(self):
        for net in NETS:
            self.assertEqual(guild_of_net(net), guild_of_net(net, rule="short"))

    def test_of_one_length_the_wider_one(self):
        net = (3, ((0, 1, 5, 3), (0, 2, 2, 9), (1, 2, 3, 4)))
        self.assertEqual(guild_of_net(net)[2][0], ((1, 2, 0), (1, 0)))
        self.assertEqual(guild_of_net(net, rule="few")[2][0], ((1, 0), (1, 2, 0)))

    def test_of_one_width_the_shorter_one(self):
        net = (3, ((0, 1, 7, 3), (0, 2, 2, 9), (1, 2, 4, 3)))
        self.assertEqual(guild_of_net(net, rule="wide")[2][0], ((1, 2, 0), (1, 0)))

    def test_of_as_few_houses_as_by_short(self):
        # House 3 goes over 1 or over 2: the shorter one, then the wider one, then the lesser tuple.
        for over_two, likes in (
            ((4, 5), ((3, 2, 0), (3, 1, 0))), ((6, 5), ((3, 1, 0), (3, 2, 0))),
            ((5, 6), ((3, 2, 0), (3, 1, 0))), ((5, 4), ((3, 1, 0), (3, 2, 0))),
            ((5, 5), ((3, 1, 0), (3, 2, 0))),
        ):
            net = (4, ((0, 1, 2, 9), (0, 2, 2, 9), (1, 3, 5, 5), (2, 3) + over_two))
            for rule in ("few", "short"):
                self.assertEqual(guild_of_net(net, rule=rule)[2][2], likes)

    def test_of_what_is_alike_the_lesser_tuple(self):
        self.assertEqual(guild_of_net(SQUARE_NET)[2][1], ((2, 1, 0), (2, 3, 0)))
        for rule in RULES:
            self.assertEqual(
                guild_of_net(EVEN, rule=rule)[2][5],
                ((6, 0), (6, 1, 0), (6, 2, 0), (6, 3, 0), (6, 4, 0), (6, 5, 0)),
            )

    def test_a_lesser_tuple_may_be_the_longer_one(self):
        # Over 1 and 2 it is as long and as wide as over 3.
        net = (5, ((0, 2, 1, 5), (0, 3, 2, 5), (1, 2, 1, 5), (1, 4, 1, 5), (3, 4, 1, 5)))
        self.assertEqual(guild_of_net(net)[2][3], ((4, 1, 2, 0), (4, 3, 0)))
        self.assertEqual(guild_of_net(net, rule="wide")[2][3], ((4, 1, 2, 0), (4, 3, 0)))
        self.assertEqual(guild_of_net(net, rule="few")[2][3], ((4, 3, 0), (4, 1, 2, 0)))

    def test_every_rule_and_number(self):
        for net in NETS:
            for rule in RULES:
                for most in (1, 2, 5, LIKED):
                    told = guild_of_net(net, rule=rule, most=most)
                    self.assertEqual(repr(told), repr(plain_guild(net, rule, most)))
                    self.assertIs(is_guild(told), True)

    def test_how_many(self):
        for most in range(1, LIKED + 1):
            self.assertEqual({len(liked) for liked in guild_of_net(EVEN, most=most)[2]}, {most})
        self.assertEqual(guild_of_net(EVEN), guild_of_net(EVEN, most=LIKED))
        self.assertEqual(guild_of_net(TRIANGLE, most=1)[2], (((1, 2, 0),), ((2, 0),)))

    def test_no_rule(self):
        for text in ("", "Short", "short ", " wide", "fewer", "long", "x" * 4000, "a\nb", "shortwide"):
            for net in (BARE, TRIANGLE):
                self.assertEqual(refused(guild_of_net, net, rule=text), "NoRule")
                self.assertEqual(refused(guild_of_net, net, rule=text, most=1), "NoRule")

    def test_by_name_alone_and_in_any_order(self):
        self.assertEqual(guild_of_net(EVEN, most=2, rule="wide"), guild_of_net(EVEN, rule="wide", most=2))
        with self.assertRaises(TypeError):
            guild_of_net(EVEN, "wide")
        with self.assertRaises(TypeError):
            guild_of_net(EVEN, "wide", 2)


class TestOrders(unittest.TestCase):
    def test_they_have_an_order(self):
        for net in NETS + random_nets(183, 15, (6, 7), 4) + random_nets(184, 15, (6, 7), 99):
            for rule in RULES:
                for most in (1, 3, LIKED):
                    guild = guild_of_net(net, rule=rule, most=most)
                    kind, order = order_or_ring(guild)
                    self.assertEqual(kind, "order")
                    self.assertIs(is_order(guild, order), True)
                    self.assertTrue(plain_has_order(guild))


class TestLarge(unittest.TestCase):
    def test_seven_houses_all_joined_within_seconds(self):
        chance = Random(185)
        for net in (EVEN, random_net(chance, 7, 1, 4)):
            self.assertEqual(len(net[1]), 21)
            self.assertIs(is_net(net), True)
            for rule in RULES:
                began = time.perf_counter()
                told = guild_of_net(net, rule=rule)
                self.assertLess(time.perf_counter() - began, 5)
                self.assertEqual(told, plain_guild(net, rule, LIKED))


class TestNothingChanged(unittest.TestCase):
    def test_net_is_as_it_was_and_answers_stay(self):
        for net in NETS:
            shown = repr(net)
            first = [guild_of_net(net, rule=rule) for rule in RULES]
            refused(guild_of_net, net, rule="other")
            self.assertEqual([guild_of_net(net, rule=rule) for rule in RULES], first)
            self.assertEqual(repr(net), shown)


if __name__ == "__main__":
    unittest.main()

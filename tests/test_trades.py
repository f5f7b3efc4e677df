"""Points 20 and 21: trades, rounds of sales, fit ways, guilds of trades; points 2 and 3 as far as they speak of these."""

import time
import unittest
from itertools import combinations, permutations
from random import Random

from guild_samples import ALL_ROADS, ways_of
from likedways.bounds import LIKED
from likedways.guilds import is_guild
from likedways.orders import is_order, order_or_ring
from likedways.trades import guild_of_trade, is_fit, is_trade, just_or_round
from odd_things import MORE_DEEP_THINGS, ODD_THINGS, loosened
from plain_likings import plain_has_order, plain_is_fit, plain_is_round, plain_just, plain_step

BARE = (2, (), ())
SALE = (2, ((0, 1),), ())
BOUGHT = (2, ((1, 0),), ())
PEERS = (2, (), ((0, 1),))
# 1 sells to 0 and to 2, 2 sells to 3; 0 and 2 are peers.
MIXED = (4, ((1, 0), (1, 2), (2, 3)), ((0, 2),))
ROUND = (3, ((0, 1), (1, 2), (2, 0)), ())
# A round among others that sell to it and buy from it.
ROUND_WITHIN = (6, ((0, 1), (1, 2), (2, 4), (3, 2), (4, 1), (4, 5)), ((0, 5),))
LADDER = (7, ALL_ROADS, ())
TURNED_LADDER = (7, tuple(sorted((other, one) for one, other in ALL_ROADS)), ())
ALL_PEERS = (7, (), ALL_ROADS)


def random_trade(chance, many, share, just):
    places = list(range(many))
    chance.shuffle(places)
    sales, peers = [], []
    for one, other in combinations(range(many), 2):
        if chance.random() < share:
            if chance.random() < 0.3:
                peers.append((one, other))
            elif (places[one] < places[other]) if just else chance.random() < 0.5:
                sales.append((one, other))
            else:
                sales.append((other, one))
    return (many, tuple(sorted(sales)), tuple(peers))


def random_trades(seed, count, sizes, just):
    chance = Random(seed)
    return [random_trade(chance, chance.choice(sizes), chance.choice((0.5, 0.8, 1)), just) for _ in range(count)]


JUST = [BARE, SALE, BOUGHT, PEERS, MIXED] + random_trades(201, 60, (2, 3, 4, 5, 6), True)
ANY = random_trades(202, 60, (3, 4, 5, 6), False)
TRADES = JUST + [ROUND, ROUND_WITHIN] + ANY


def roads_of(trade):
    return tuple(sorted(tuple(sorted(pair)) for pair in trade[1] + trade[2]))


def plain_guild(trade):
    roads = roads_of(trade)
    likes = []
    for house in range(1, trade[0]):
        ways = [way for way in ways_of(house, trade[0], roads) if plain_is_fit(trade, way)]
        sorts = [[way for way in ways if plain_step(trade, *way[:2]) == kind] for kind in ("down", "level", "up")]
        listed = [way for some in sorts for way in sorted(sorted(some), key=len)]
        likes.append(tuple(listed[:LIKED]))
    return (trade[0], roads, tuple(likes))


class TestIsTrade(unittest.TestCase):
    def test_trades(self):
        for trade in TRADES + [LADDER, TURNED_LADDER, ALL_PEERS]:
            self.assertIs(is_trade(trade), True)
        for many in range(2, 8):
            self.assertIs(is_trade((many, (), ())), True)
            self.assertIs(is_trade((many, ((many - 1, 0),), ())), True)
            self.assertIs(is_trade((many, ((many, 0),), ())), False)
            self.assertIs(is_trade((many, (), ((0, many),))), False)

    def test_how_many_houses(self):
        for many in (-1, 0, 1, 8, 10 ** 39, True, False, None, "3", (3,)):
            self.assertIs(is_trade((many, (), ())), False)

    def test_a_house_with_itself(self):
        self.assertIs(is_trade((3, ((1, 1),), ())), False)
        self.assertIs(is_trade((3, (), ((1, 1),))), False)
        self.assertIs(is_trade((3, ((0, 0),), ())), False)

    def test_two_houses_joined_twice(self):
        self.assertIs(is_trade((3, ((0, 1), (0, 1)), ())), False)
        self.assertIs(is_trade((3, (), ((0, 1), (0, 1)))), False)
        self.assertIs(is_trade((3, ((0, 1), (1, 0)), ())), False)
        self.assertIs(is_trade((3, ((0, 1),), ((0, 1),))), False)
        self.assertIs(is_trade((3, ((1, 0),), ((0, 1),))), False)
        self.assertIs(is_trade((3, ((1, 0),), ((0, 2), (1, 2)))), True)

    def test_pairs_that_are_not_rising(self):
        self.assertIs(is_trade((3, ((0, 1), (2, 0)), ())), True)
        self.assertIs(is_trade((3, ((2, 0), (0, 1)), ())), False)
        self.assertIs(is_trade((3, (), ((0, 1), (0, 2)))), True)
        self.assertIs(is_trade((3, (), ((0, 2), (0, 1)))), False)

    def test_peers_the_wrong_way_round(self):
        self.assertIs(is_trade((3, (), ((1, 0),))), False)
        self.assertIs(is_trade((3, ((1, 0),), ())), True)

    def test_pairs_that_are_none(self):
        for pair in ((), (0,), (0, 1, 2), (-1, 1), (0, 3), (True, 0), (0, True), (1, False), ("0", 1), (None, 1),
                     [0, 1], "01", 5, None):
            self.assertIs(is_trade((3, (pair,), ())), False, pair)
            self.assertIs(is_trade((3, (), (pair,))), False, pair)

    def test_other_kinds_in_the_place_of_tuples_and_numbers(self):
        for trade in (BARE, SALE, BOUGHT, PEERS, MIXED, ROUND):
            for odd in loosened(trade):
                self.assertIs(is_trade(odd), False, odd)

    def test_things_of_all_kinds(self):
        for thing in ODD_THINGS + MORE_DEEP_THINGS:
            self.assertIs(is_trade(thing), False)
            self.assertIs(is_trade((thing, (), ())), thing in (2, 3) and type(thing) is int)
            self.assertIs(is_trade((3, thing, ())), thing in ((), ((1, 0),)))
            self.assertIs(is_trade((3, (), thing)), thing == () and type(thing) is tuple)
            self.assertIs(is_trade((3, (thing,), ())), thing == (0, 1) and type(thing) is tuple)
            self.assertIs(is_trade((3, (), (thing,))), thing == (0, 1) and type(thing) is tuple)
        for thing in ((), (3,), (3, ()), (3, (), (), ())):
            self.assertIs(is_trade(thing), False)


class TestJustOrRound(unittest.TestCase):
    def test_just_ones(self):
        self.assertEqual(just_or_round(BARE), ("just", [0, 1]))
        self.assertEqual(just_or_round(SALE), ("just", [0, 1]))
        self.assertEqual(just_or_round(BOUGHT), ("just", [1, 0]))
        self.assertEqual(just_or_round(PEERS), ("just", [0, 1]))
        self.assertEqual(just_or_round(MIXED), ("just", [1, 0, 2, 3]))
        self.assertEqual(just_or_round(LADDER), ("just", [0, 1, 2, 3, 4, 5, 6]))
        self.assertEqual(just_or_round(TURNED_LADDER), ("just", [6, 5, 4, 3, 2, 1, 0]))
        self.assertEqual(just_or_round(ALL_PEERS), ("just", [0, 1, 2, 3, 4, 5, 6]))

    def test_the_first_list(self):
        # A free house of a great number waits until no lesser one is free.
        self.assertEqual(just_or_round((5, ((3, 0), (4, 1)), ())), ("just", [2, 3, 0, 4, 1]))
        for trade in JUST:
            self.assertEqual(repr(just_or_round(trade)), repr(("just", plain_just(trade))))

    def test_rounds(self):
        kind, houses = just_or_round(ROUND)
        self.assertEqual(kind, "round")
        self.assertIn(houses, ([0, 1, 2], [1, 2, 0], [2, 0, 1]))
        kind, houses = just_or_round(ROUND_WITHIN)
        self.assertEqual(kind, "round")
        self.assertEqual(sorted(houses), [1, 2, 4])
        self.assertTrue(plain_is_round(ROUND_WITHIN, houses))
        long = (7, tuple((house, (house + 1) % 7) for house in range(7)), ())
        self.assertIs(is_trade(long), True)
        self.assertTrue(plain_is_round(long, just_or_round(long)[1]))

    def test_either_one_and_never_both(self):
        kinds = set()
        for trade in TRADES:
            kind, houses = just_or_round(trade)
            kinds.add(kind)
            self.assertIs(type(houses), list)
            self.assertEqual(kind, "just" if plain_just(trade) else "round")
            if kind == "round":
                self.assertTrue(plain_is_round(trade, houses))
            else:
                rows = [row for size in range(2, trade[0] + 1) for row in permutations(range(trade[0]), size)]
                self.assertFalse(any(plain_is_round(trade, list(row)) for row in rows))
        self.assertEqual(kinds, {"just", "round"})


class TestIsFit(unittest.TestCase):
    def test_each_step_behind_each_other(self):
        # From house 1 over house 2 to the hall.
        steps = {
            "down": (((1, 2),), ()), "level": ((), ((1, 2),)), "up": (((2, 1),), ()),
        }
        later = {
            "down": (((2, 0),), ()), "level": ((), ((0, 2),)), "up": (((0, 2),), ()),
        }
        good = {("up", "up"), ("up", "level"), ("up", "down"), ("level", "down"), ("down", "down")}
        for one, (sales, peers) in steps.items():
            for other, (more_sales, more_peers) in later.items():
                trade = (3, tuple(sorted(sales + more_sales)), tuple(sorted(peers + more_peers)))
                self.assertIs(is_trade(trade), True)
                self.assertIs(is_fit(trade, (1, 2, 0)), (one, other) in good, (one, other))

    def test_single_steps(self):
        for trade in (SALE, BOUGHT, PEERS):
            self.assertIs(is_fit(trade, (1, 0)), True)
            self.assertIs(is_fit(trade, (0, 1)), True)

    def test_steps_far_behind(self):
        # Level, down, down, then up.
        trade = (5, ((0, 4), (2, 3), (3, 4)), ((1, 2),))
        self.assertIs(is_trade(trade), True)
        self.assertIs(is_fit(trade, (1, 2, 3, 4)), True)
        self.assertIs(is_fit(trade, (1, 2, 3, 4, 0)), False)
        self.assertIs(is_fit(trade, (2, 3, 4, 0)), False)
        self.assertIs(is_fit(trade, (4, 3, 2, 1)), True)
        self.assertIs(is_fit(trade, (0, 4, 3)), False)

    def test_up_level_down(self):
        trade = (6, ((0, 5), (2, 1), (3, 2), (4, 0)), ((3, 4),))
        self.assertIs(is_trade(trade), True)
        self.assertIs(is_fit(trade, (1, 2, 3, 4, 0, 5)), True)
        two_level = (4, (), ((0, 3), (1, 2), (2, 3)))
        self.assertIs(is_fit(two_level, (1, 2)), True)
        self.assertIs(is_fit(two_level, (1, 2, 3)), False)
        self.assertIs(is_fit(two_level, (1, 2, 3, 0)), False)

    def test_every_way(self):
        for trade in TRADES:
            for house in range(1, trade[0]):
                for way in ways_of(house, trade[0], roads_of(trade)):
                    self.assertIs(is_fit(trade, way), plain_is_fit(trade, way))
                    self.assertIs(is_fit(trade, way[::-1]), plain_is_fit(trade, way[::-1]))


class TestGuildOfTrade(unittest.TestCase):
    def test_samples(self):
        self.assertEqual(guild_of_trade(BARE), (2, (), ((),)))
        for trade in (SALE, BOUGHT, PEERS):
            self.assertEqual(guild_of_trade(trade), (2, ((0, 1),), (((1, 0),),)))
        self.assertEqual(
            guild_of_trade(MIXED),
            (4, ((0, 1), (0, 2), (1, 2), (2, 3)), (((1, 0),), ((2, 0), (2, 1, 0)), ((3, 2, 0), (3, 2, 1, 0)))),
        )

    def test_down_then_level_then_up(self):
        # House 4 sells to 3, is a peer of 2 and buys from 1; each of these has the hall as its buyer.
        trade = (5, ((1, 0), (1, 4), (2, 0), (3, 0), (4, 3)), ((2, 4),))
        self.assertIs(is_trade(trade), True)
        self.assertEqual(guild_of_trade(trade)[2][3], ((4, 3, 0), (4, 2, 0), (4, 1, 0)))

    def test_a_long_way_down_ahead_of_a_short_one_up(self):
        trade = (5, ((0, 4), (1, 0), (2, 1), (3, 2), (4, 3)), ())
        self.assertEqual(guild_of_trade(trade)[2][3], ((4, 3, 2, 1, 0), (4, 0)))

    def test_shorter_ones_ahead_then_the_lesser_tuple(self):
        trade = (5, ((1, 0), (2, 0), (3, 1), (4, 1), (4, 2), (4, 3)), ())
        self.assertEqual(guild_of_trade(trade)[2][3], ((4, 1, 0), (4, 2, 0), (4, 3, 1, 0)))

    def test_more_than_liked(self):
        # Each house sells to all lesser ones, so each way that falls is fit.
        told = guild_of_trade(TURNED_LADDER)
        self.assertEqual(
            told[2][5], ((6, 0), (6, 1, 0), (6, 2, 0), (6, 3, 0), (6, 4, 0), (6, 5, 0)),
        )
        self.assertEqual(told[2][3], ((4, 0), (4, 1, 0), (4, 2, 0), (4, 3, 0), (4, 2, 1, 0), (4, 3, 1, 0)))
        self.assertEqual(len([way for way in ways_of(6, 7, ALL_ROADS) if plain_is_fit(TURNED_LADDER, way)]), 32)

    def test_every_trade(self):
        for trade in TRADES:
            told = guild_of_trade(trade)
            self.assertEqual(repr(told), repr(plain_guild(trade)))
            self.assertIs(is_guild(told), True)


class TestOrders(unittest.TestCase):
    def test_just_trades_have_an_order(self):
        for trade in JUST + random_trades(203, 25, (6, 7), True) + [LADDER, TURNED_LADDER, ALL_PEERS]:
            self.assertEqual(just_or_round(trade)[0], "just")
            guild = guild_of_trade(trade)
            kind, order = order_or_ring(guild)
            self.assertEqual(kind, "order")
            self.assertIs(is_order(guild, order), True)
            self.assertTrue(plain_has_order(guild))


class TestLarge(unittest.TestCase):
    def test_seven_houses_all_joined_within_seconds(self):
        chance = Random(204)
        trades = [LADDER, TURNED_LADDER, ALL_PEERS]
        trades += [random_trade(chance, 7, 1, just) for just in (True, False) * 4]
        for trade in trades:
            self.assertEqual(len(trade[1]) + len(trade[2]), 21)
            began = time.perf_counter()
            self.assertIs(is_trade(trade), True)
            just_or_round(trade)
            told = guild_of_trade(trade)
            self.assertLess(time.perf_counter() - began, 5)
            self.assertEqual(told, plain_guild(trade))


class TestNothingChanged(unittest.TestCase):
    def test_new_lists_each_time(self):
        for trade in (MIXED, ROUND):
            one, other = just_or_round(trade), just_or_round(trade)
            self.assertIs(type(one), tuple)
            shown = repr(other)
            one[1].clear()
            self.assertEqual(repr(other), shown)
            self.assertEqual(repr(just_or_round(trade)), shown)

    def test_trade_is_as_it_was_and_answers_stay(self):
        for trade in TRADES:
            shown = repr(trade)
            first = (just_or_round(trade), guild_of_trade(trade))
            self.assertEqual((just_or_round(trade), guild_of_trade(trade)), first)
            self.assertEqual(repr(trade), shown)


if __name__ == "__main__":
    unittest.main()

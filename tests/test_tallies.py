"""Point 15: tallies, the most changes and runs that have them; points 2 and 3 as far as they speak of these."""

import time
import unittest
from random import Random

from guild_samples import (
    ALONE, CALMED, CHAIN, MANY, NO_LIKES, PAIR, SEVEN, SQUARE, STAIRS, TWO_MINDS, WITH_ORDER, WITH_RING, full_guild,
    random_guild, random_guilds,
)
from likedways.bounds import STANDS
from likedways.guilds import dropped, without
from likedways.orders import order_or_ring
from likedways.reached import reached
from likedways.runs import changes
from likedways.stands import first_stand
from likedways.tallies import longest_run, most_changes, tally
from likedways.verdicts import rests
from plain_answers import plain_first, plain_led, plain_liked, plain_rings, plain_tally, plain_turns
from refusals import refused

RANDOM = random_guilds(151, 120, (2, 3, 4, 5), 3)
ORDERED = list(WITH_ORDER) + [guild for guild in RANDOM if not plain_rings(guild)]
ALL_THREE = (tally, most_changes, longest_run)
# Either house alone has its road; both take it in whatever order.
TWO_ROADS = (3, ((0, 1), (0, 2)), (((1, 0),), ((2, 0),)))


class TestTally(unittest.TestCase):
    def test_samples(self):
        self.assertEqual(tally(ALONE), [(((0,), ()), 0)])
        self.assertEqual(tally(NO_LIKES), [(((0,), (), ()), 0)])
        self.assertEqual(tally(PAIR), [(((0,), ()), 1), (((0,), (1, 0)), 0)])
        self.assertEqual(
            tally(TWO_ROADS),
            [
                (((0,), (), ()), 2), (((0,), (), (2, 0)), 1),
                (((0,), (1, 0), ()), 1), (((0,), (1, 0), (2, 0)), 0),
            ],
        )

    def test_houses_that_change_more_than_once(self):
        self.assertEqual(
            tally(SQUARE),
            [
                (((0,), (), (), ()), 5),
                (((0,), (), (), (3, 0)), 3),
                (((0,), (), (2, 3, 0), (3, 0)), 1),
                (((0,), (1, 0), (), ()), 4),
                (((0,), (1, 0), (), (3, 0)), 2),
                (((0,), (1, 0), (2, 1, 0), ()), 3),
                (((0,), (1, 0), (2, 1, 0), (3, 0)), 2),
                (((0,), (1, 0), (2, 3, 0), (3, 0)), 1),
                (((0,), (1, 2, 3, 0), (2, 3, 0), (3, 0)), 0),
            ],
        )

    def test_every_small_guild(self):
        for guild in ORDERED:
            self.assertEqual(repr(tally(guild)), repr(plain_tally(guild)))

    def test_of_all_reached_stands(self):
        for guild in ORDERED:
            self.assertEqual([stand for stand, _ in tally(guild)], reached(guild))
            self.assertEqual([stand for stand, count in tally(guild) if count == 0], rests(guild))


class TestMostChanges(unittest.TestCase):
    def test_samples(self):
        for guild, count in ((ALONE, 0), (NO_LIKES, 0), (PAIR, 1), (TWO_ROADS, 2), (CHAIN, 6), (SEVEN, 6), (SQUARE, 5)):
            self.assertEqual(most_changes(guild), count)
            self.assertIs(type(most_changes(guild)), int)

    def test_those_of_the_first_stand(self):
        for guild in ORDERED:
            self.assertEqual(most_changes(guild), dict(tally(guild))[plain_first(guild)])

    def test_no_run_has_more(self):
        chance = Random(152)
        for guild in ORDERED:
            turns = plain_turns(guild)
            most = most_changes(guild)
            for _ in range(30):
                run = [chance.choice(turns) for _ in range(40)]
                self.assertLessEqual(changes(guild, first_stand(guild), run), most)
                # A lone house in each turn changes most, mostly.
                run = [(chance.randint(1, guild[0] - 1),) for _ in range(60)]
                self.assertLessEqual(changes(guild, first_stand(guild), run), most)

    def test_whatever_roads_and_ways_are_taken_away(self):
        for guild in WITH_ORDER:
            for less in [without(guild, [road]) for road in guild[1][:6]] + [
                dropped(guild, [way]) for way in plain_liked(guild)[:6]
            ]:
                self.assertEqual(most_changes(less), changes(less, first_stand(less), longest_run(less)))


class TestLongestRun(unittest.TestCase):
    def test_has_just_the_most_changes(self):
        for guild in ORDERED:
            run = longest_run(guild)
            self.assertIs(type(run), list)
            for turn in run:
                self.assertIn(turn, plain_turns(guild))
                self.assertIs(type(turn), tuple)
            stands = plain_led(guild, plain_first(guild), run)
            count = sum(one != other for ahead, behind in zip(stands, stands[1:]) for one, other in zip(ahead, behind))
            self.assertEqual(count, dict(plain_tally(guild))[plain_first(guild)])
            self.assertEqual(changes(guild, first_stand(guild), run), most_changes(guild))

    def test_where_nothing_changes(self):
        self.assertEqual(most_changes(ALONE), 0)
        self.assertEqual(changes(ALONE, first_stand(ALONE), longest_run(ALONE)), 0)


class TestRefusals(unittest.TestCase):
    def test_no_order(self):
        for guild in list(WITH_RING) + [guild for guild in RANDOM if plain_rings(guild)]:
            for asked in ALL_THREE:
                self.assertEqual(refused(asked, guild), "NoOrder")

    def test_no_order_ahead_of_too_many(self):
        for asked in ALL_THREE:
            self.assertEqual(refused(asked, TWO_MINDS, most=1), "NoOrder")
            self.assertEqual(refused(asked, CALMED, most=3), "NoOrder")
            self.assertEqual(refused(asked, MANY), "NoOrder")
            self.assertEqual(refused(asked, MANY, most=1), "NoOrder")

    def test_too_many(self):
        self.assertEqual(order_or_ring(STAIRS)[0], "order")
        for asked in ALL_THREE:
            self.assertEqual(refused(asked, STAIRS), ("TooMany", 1000))
            self.assertEqual(refused(asked, STAIRS, most=7), ("TooMany", 7))
            self.assertEqual(refused(asked, PAIR, most=1), ("TooMany", 1))

    def test_as_many_as_there_are(self):
        for guild in ORDERED:
            count = len(reached(guild))
            for asked in ALL_THREE:
                right = asked(guild)
                self.assertEqual(asked(guild, most=count), right)
                self.assertEqual(asked(guild, most=count + 1), right)
                self.assertEqual(asked(guild, most=STANDS), right)
                if count > 1:
                    self.assertEqual(refused(asked, guild, most=count - 1), ("TooMany", count - 1))

    def test_by_name_alone(self):
        for asked in ALL_THREE:
            with self.assertRaises(TypeError):
                asked(PAIR, 5)


class TestLargeGuilds(unittest.TestCase):
    def test_answered_or_refused_within_seconds(self):
        chance = Random(153)
        kinds = set()
        guilds = [random_guild(chance, 7, 6) for _ in range(15)] + [full_guild(chance) for _ in range(5)]
        for guild in guilds + [MANY, STAIRS]:
            for asked in ALL_THREE:
                began = time.perf_counter()
                told = refused(asked, guild)
                self.assertLess(time.perf_counter() - began, 10)
                kinds.add(told if type(told) is str else type(told))
        self.assertLessEqual({"NoOrder", list, int, tuple}, kinds)

    def test_beyond_the_bound_is_no_error(self):
        self.assertEqual(len(tally(STAIRS, most=2000)), 1957)
        run = longest_run(STAIRS, most=2000)
        self.assertEqual(changes(STAIRS, first_stand(STAIRS), run), most_changes(STAIRS, most=2000))
        self.assertEqual(most_changes(STAIRS, most=2000), 21)


class TestNothingChanged(unittest.TestCase):
    def test_new_lists_each_time(self):
        for asked in (tally, longest_run):
            one, other = asked(SQUARE), asked(SQUARE)
            self.assertIs(type(one), list)
            shown = repr(other)
            one.clear()
            self.assertEqual(repr(other), shown)
            self.assertEqual(repr(asked(SQUARE)), shown)

    def test_guild_is_as_it_was(self):
        for guild in WITH_ORDER:
            shown = repr(guild)
            one = [asked(guild) for asked in ALL_THREE]
            refused(tally, guild, most=1)
            self.assertEqual([asked(guild) for asked in ALL_THREE], one)
            self.assertEqual(repr(guild), shown)


if __name__ == "__main__":
    unittest.main()

"""Point 13: what a calm is; and point 2 as far as it speaks of that."""

import copy
import unittest
from random import Random

from guild_samples import (
    ALONE, CALMED, CHAIN, FAR_SPOKE, NO_LIKES, PAIR, SEVEN, SQUARE, THREE_MINDS, TWO_MINDS, random_guilds,
)
from likedways.verdicts import is_calm, verdict
from odd_things import HUGE, MORE_DEEP_THINGS, ODD_THINGS, loosened, with_place
from plain_answers import plain_can_go_on, plain_is_calm, plain_reached, plain_stands, plain_steady

FIRST = ((0,), ())
LAST = ((0,), (1, 0))
PAIR_CALM = [(FIRST, 1, 1), (LAST, 0, 1)]
# Both houses have their road alone, and take it in whatever order.
TWO_ROADS = (3, ((0, 1), (0, 2)), (((1, 0),), ((2, 0),)))
TWO_ROADS_CALM = [
    (((0,), (), ()), 3, 1),
    (((0,), (), (2, 0)), 2, 1),
    (((0,), (1, 0), ()), 1, 2),
    (((0,), (1, 0), (2, 0)), 0, 1),
]
SAFE = [ALONE, PAIR, NO_LIKES, TWO_ROADS, SQUARE, CHAIN, FAR_SPOKE, CALMED]
SAFE += [guild for guild in random_guilds(133, 60, (2, 3, 4), 3) if not plain_can_go_on(guild)]


def near_rows(row, guild):
    """Rows that are nearly the told one, each of them good for itself."""
    stand, rank, house = row
    for other in (0, 1, 2, rank - 1, rank + 1, rank + 7, HUGE):
        if other >= 0 and other != rank:
            yield (stand, other, house)
    for other in range(1, guild[0]):
        if other != house:
            yield (stand, rank, other)
    for other in plain_stands(guild)[:6]:
        if other != stand:
            yield (other, rank, house)


class IsCalm(unittest.TestCase):
    def yes(self, guild, thing):
        self.assertIs(is_calm(guild, thing), True, repr((guild, thing))[:800])

    def no(self, guild, thing):
        self.assertIs(is_calm(guild, thing), False, repr((guild, thing))[:800])


class TestIsCalm(IsCalm):
    def test_samples(self):
        self.yes(PAIR, PAIR_CALM)
        self.yes(TWO_ROADS, TWO_ROADS_CALM)
        self.yes(ALONE, [(FIRST, 0, 1)])
        self.yes(ALONE, [(FIRST, 5, 1)])
        self.yes(NO_LIKES, [(((0,), (), ()), HUGE, 2)])

    def test_ranks_may_be_any_from_0(self):
        self.yes(PAIR, [(FIRST, HUGE, 1), (LAST, HUGE - 1, 1)])
        self.yes(PAIR, [(FIRST, 7, 1), (LAST, 3, 1)])
        self.no(PAIR, [(FIRST, 0, 1), (LAST, -1, 1)])
        self.no(PAIR, [(FIRST, -1, 1), (LAST, -2, 1)])

    def test_same_rank(self):
        # From the first stand to the second one leads house 2, which isn't the house of their rank.
        self.yes(TWO_ROADS, [
            (((0,), (), ()), 2, 1), (((0,), (), (2, 0)), 2, 1),
            (((0,), (1, 0), ()), 1, 2), (((0,), (1, 0), (2, 0)), 0, 1),
        ])
        # From the third one to the last one, too; but house 1 could have a turn there that changes nothing.
        self.no(TWO_ROADS, [
            (((0,), (), ()), 1, 1), (((0,), (), (2, 0)), 1, 1),
            (((0,), (1, 0), ()), 0, 1), (((0,), (1, 0), (2, 0)), 0, 1),
        ])

    def test_same_rank_with_the_house_in_the_turn(self):
        self.no(PAIR, [(FIRST, 0, 1), (LAST, 0, 1)])
        self.no(TWO_ROADS, [(stand, 2 if rank == 3 else rank, 2 if rank > 1 else house)
                            for stand, rank, house in TWO_ROADS_CALM])

    def test_greater_rank(self):
        self.no(PAIR, [(FIRST, 0, 1), (LAST, 1, 1)])

    def test_house_that_has_its_choice_already(self):
        # House 2 likes nothing; where it alone has a turn the stand and its rank stay.
        guild = (3, TWO_MINDS[1], (((1, 0),), ()))
        stands = [((0,), (), ()), ((0,), (1, 0), ())]
        self.yes(guild, [(stands[0], 1, 1), (stands[1], 0, 2)])
        self.no(guild, [(stands[0], 1, 2), (stands[1], 0, 2)])
        self.no(guild, [(stands[0], 1, 2), (stands[1], 0, 1)])

    def test_equal_ranks_with_unlike_houses(self):
        self.no(TWO_ROADS, [
            (((0,), (), ()), 2, 1), (((0,), (), (2, 0)), 1, 1),
            (((0,), (1, 0), ()), 1, 2), (((0,), (1, 0), (2, 0)), 0, 1),
        ])
        # Of steady stands, too.
        guild = (3, TWO_MINDS[1], (((1, 2, 0),), ((2, 1, 0),)))
        stands = [((0,), (), ()), ((0,), (1, 2, 0), ())]
        self.yes(guild, [(stands[0], 0, 1), (stands[1], 1, 1)])
        self.yes(guild, [(stands[0], 0, 2), (stands[1], 1, 1)])
        self.no(guild, [(stands[0], 1, 2), (stands[1], 1, 1)])
        two_rests = (3, ((0, 1), (0, 2)), (((1, 0),), ()))
        self.yes(two_rests, [(stands[0], 1, 1), (((0,), (1, 0), ()), 0, 2)])
        self.no(two_rests, [(stands[0], 1, 1), (((0,), (1, 0), ()), 1, 2)])

    def test_rows_left_out(self):
        self.no(PAIR, [])
        for calm, guild in ((PAIR_CALM, PAIR), (TWO_ROADS_CALM, TWO_ROADS)):
            for at in range(len(calm)):
                self.no(guild, calm[:at] + calm[at + 1:])

    def test_the_first_stand_is_among_them(self):
        self.no(PAIR, [(LAST, 0, 1)])
        self.no(TWO_ROADS, TWO_ROADS_CALM[1:])
        self.no(ALONE, [])

    def test_rows_told_twice(self):
        for calm, guild in ((PAIR_CALM, PAIR), (TWO_ROADS_CALM, TWO_ROADS), ([(FIRST, 0, 1)], ALONE)):
            for at in range(len(calm)):
                self.no(guild, calm[:at] + [calm[at]] + calm[at:])
                self.no(guild, calm + [calm[at]])
                stand, rank, house = calm[at]
                self.no(guild, calm[:at] + [calm[at], (stand, rank + 9, house)] + calm[at + 1:])
                self.no(guild, calm[:at] + [(stand, rank + 9, house), calm[at]] + calm[at + 1:])

    def test_rows_put_elsewhere(self):
        self.no(PAIR, PAIR_CALM[::-1])
        self.no(TWO_ROADS, TWO_ROADS_CALM[::-1])
        for at in range(3):
            calm = list(TWO_ROADS_CALM)
            calm[at], calm[at + 1] = calm[at + 1], calm[at]
            self.no(TWO_ROADS, calm)

    def test_more_stands_than_are_reached(self):
        stand = ((0,), (1, 2, 0), ())
        guild = (3, TWO_MINDS[1], (((1, 2, 0),), ()))
        self.assertEqual(plain_reached(guild), [((0,), (), ())])
        self.yes(guild, [(((0,), (), ()), 0, 1)])
        self.yes(guild, [(((0,), (), ()), 0, 1), (stand, 1, 1)])
        self.no(guild, [(((0,), (), ()), 1, 1), (stand, 0, 1)])
        self.no(guild, [(((0,), (), ()), 0, 1), (stand, 1, 2)])

    def test_a_stand_that_is_none(self):
        for odd in (((0,), (1, 0), ()), ((0,),), ((0,), (0,)), ((), (1, 0)), ((0,), (1, 2, 0)), ((0,), (2, 0)), ()):
            self.no(PAIR, PAIR_CALM + [(odd, 0, 1)])
            self.no(PAIR, [PAIR_CALM[0], (odd, 0, 1)])

    def test_the_hall_as_house_and_houses_that_there_are_not(self):
        for odd in (0, 2, -1, 7, HUGE, -HUGE, True, False, None, "1", (1,), [1]):
            self.no(PAIR, [(FIRST, 1, odd), (LAST, 0, 1)])
            self.no(PAIR, [(FIRST, 1, 1), (LAST, 0, odd)])
            self.no(PAIR, [(FIRST, 1, odd), (LAST, 0, odd)])
            self.no(ALONE, [(FIRST, 0, odd)])

    def test_ranks_that_are_none(self):
        for odd in (-1, -HUGE, True, False, None, "0", (0,), [0], ""):
            self.no(PAIR, [(FIRST, 1, 1), (LAST, odd, 1)])
            self.no(PAIR, [(FIRST, odd, 1), (LAST, 0, 1)])
            self.no(ALONE, [(FIRST, odd, 1)])

    def test_guilds_that_can_go_on(self):
        for guild in (TWO_MINDS, THREE_MINDS):
            for house in range(1, guild[0]):
                self.no(guild, [(stand, 0, house) for stand in plain_reached(guild)])
                self.no(guild, [(stand, at, house) for at, stand in enumerate(plain_reached(guild))])
                self.no(guild, [(stand, 99 - at, house) for at, stand in enumerate(plain_reached(guild))])


class TestNearlyCalms(IsCalm):
    def test_each_row_changed(self):
        yes = no = 0
        for guild in SAFE:
            kind, calm = verdict(guild)
            self.assertEqual(kind, "safe")
            self.assertIs(plain_is_calm(guild, calm), True)
            self.yes(guild, calm)
            for at, row in list(enumerate(calm))[:12]:
                nears = [calm[:at] + calm[at + 1:], calm[:at] + [row] + calm[at:]]
                nears += [calm[:at] + [near] + calm[at + 1:] for near in near_rows(row, guild)]
                for near in nears:
                    right = plain_is_calm(guild, near)
                    self.assertIs(is_calm(guild, near), right, (guild, near))
                    yes, no = yes + right, no + (not right)
        self.assertGreater(yes, 100)
        self.assertGreater(no, 1000)

    def test_random_ranks_and_houses(self):
        chance = Random(134)
        for guild in SAFE:
            stands = plain_reached(guild)
            for _ in range(20):
                houses = [chance.randint(1, guild[0] - 1) for _ in stands]
                rows = []
                for stand in stands:
                    rank = 0 if plain_steady(guild, stand) else chance.randint(0, len(stands) - 1)
                    rows.append((stand, rank, houses[rank]))
                self.assertIs(is_calm(guild, rows), plain_is_calm(guild, rows), (guild, rows))

    def test_rows_of_all_stands(self):
        chance = Random(135)
        for guild in SAFE[:12]:
            ranks = {stand: rank for stand, rank, _ in verdict(guild)[1]}
            houses = {rank: house for _, rank, house in verdict(guild)[1]}
            more = [stand for stand in plain_stands(guild) if stand not in ranks and plain_steady(guild, stand)]
            more += chance.sample(plain_stands(guild), min(3, len(plain_stands(guild))))
            rows = dict(ranks)
            for stand in more:
                rows.setdefault(stand, max(ranks.values()) + 1)
            calm = sorted((stand, rank, houses.get(rank, 1)) for stand, rank in rows.items())
            self.assertIs(is_calm(guild, calm), plain_is_calm(guild, calm))


class TestAnything(IsCalm):
    def test_other_kinds_within(self):
        for odd in loosened(PAIR_CALM):
            self.no(PAIR, odd)
        for odd in loosened(TWO_ROADS_CALM):
            self.no(TWO_ROADS, odd)

    def test_truths_in_the_place_of_numbers(self):
        self.no(PAIR, [(((0,), ()), True, 1), (((0,), (1, 0)), 0, 1)])
        self.no(PAIR, [(((0,), ()), 1, True), (((0,), (1, 0)), 0, 1)])
        self.no(PAIR, [(((0,), ()), 1, 1), (((0,), (1, 0)), False, 1)])
        self.no(PAIR, [(((0,), ()), 1, 1), (((0,), (True, 0)), 0, 1)])
        self.no(PAIR, [(((False,), ()), 1, 1), (((0,), (1, 0)), 0, 1)])

    def test_rows_that_are_none(self):
        for odd in ((), (LAST,), (LAST, 0), (LAST, 0, 1, 1), [LAST, 0, 1], (0, LAST, 1), (1, 0, LAST), LAST, None, ""):
            self.no(PAIR, [PAIR_CALM[0], odd])
            self.no(PAIR, PAIR_CALM + [odd])
            self.no(PAIR, [odd] + PAIR_CALM)

    def test_odd_things(self):
        for guild in (ALONE, PAIR, TWO_MINDS, SEVEN):
            for odd in ODD_THINGS + MORE_DEEP_THINGS:
                self.no(guild, odd)
                self.no(guild, [odd])
                self.no(guild, [(odd, odd, odd)])
                self.no(guild, (odd, 0, 1))

    def test_odd_things_in_each_place(self):
        for odd in ODD_THINGS + MORE_DEEP_THINGS:
            is_number = type(odd) is int
            for at in (0, 1):
                self.no(PAIR, with_place(PAIR_CALM, at, odd))
                row = PAIR_CALM[at]
                self.no(PAIR, with_place(PAIR_CALM, at, with_place(row, 0, odd)))
                if not is_number:
                    self.no(PAIR, with_place(PAIR_CALM, at, with_place(row, 1, odd)))
                if not is_number or odd != 1:
                    self.no(PAIR, with_place(PAIR_CALM, at, with_place(row, 2, odd)))

    def test_thing_is_as_it_was(self):
        for thing in (PAIR_CALM[::-1], [[FIRST, 1, 1], [LAST, 0, 1]], [([(0,), []], 1, 1)], list(PAIR_CALM)):
            before = copy.deepcopy(thing)
            one = is_calm(PAIR, thing)
            self.assertEqual(repr(thing), repr(before))
            self.assertIs(is_calm(PAIR, thing), one)


if __name__ == "__main__":
    unittest.main()

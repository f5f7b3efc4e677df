"""Point 13: what an endless run is; and point 2 as far as it speaks of that."""

import copy
import unittest
from itertools import product

from guild_samples import (
    ALONE, CALMED, FIVE_MINDS, PAIR, SEVEN, SQUARE, THREE_MINDS, TWICE_TWO_MINDS, TWO_MINDS, random_guilds,
)
from likedways.verdicts import is_endless
from odd_things import HUGE, MORE_DEEP_THINGS, ODD_THINGS, loosened, with_place
from plain_answers import plain_is_endless, plain_turns

BOTH = (1, 2)


class IsEndless(unittest.TestCase):
    def yes(self, guild, lead, around):
        self.assertIs(is_endless(guild, lead, around), True, repr((guild, lead, around))[:500])

    def no(self, guild, lead, around):
        self.assertIs(is_endless(guild, lead, around), False, repr((guild, lead, around))[:500])


class TestTwoMinds(IsEndless):
    def test_both_at_once(self):
        self.yes(TWO_MINDS, [BOTH], [BOTH, BOTH])
        self.yes(TWO_MINDS, [BOTH], [BOTH] * 4)
        self.yes(TWO_MINDS, [BOTH, BOTH], [BOTH, BOTH])
        self.yes(TWO_MINDS, [BOTH] * 5, [BOTH, BOTH])

    def test_lead_ends_elsewhere(self):
        # From the first stand two such turns don't come back to it.
        self.no(TWO_MINDS, [], [BOTH, BOTH])
        self.no(TWO_MINDS, [(1,)], [BOTH, BOTH])

    def test_lead_ends_at_a_steady_stand(self):
        for around in ([BOTH], [BOTH, BOTH], [(1,), (2,)]):
            self.no(TWO_MINDS, [(1,), (2,)], around)
            self.no(TWO_MINDS, [(2,), (1,)], around)
        self.no(PAIR, [(1,)], [(1,)])
        self.no(ALONE, [], [(1,)])
        self.no(SQUARE, [(3,), (2,), (1,)], [(1, 2, 3)])

    def test_round_does_not_come_back(self):
        self.no(TWO_MINDS, [BOTH], [BOTH])
        self.no(TWO_MINDS, [BOTH], [BOTH] * 3)
        self.no(TWO_MINDS, [BOTH], [(1,), (2,)])
        self.no(PAIR, [], [(1,)])

    def test_house_in_no_turn_of_the_round(self):
        self.no(TWO_MINDS, [BOTH], [])
        self.no(TWO_MINDS, [], [])
        # The first stand of this guild isn't steady, and comes again as long as house 1 has no turn.
        guild = (3, TWO_MINDS[1], (((1, 0),), ()))
        self.no(guild, [], [(2,)])
        self.no(guild, [], [(2,), (2,)])
        # House 3 would calm it, but has no turn in the round, only in the lead or not at all.
        self.no(CALMED, [BOTH], [BOTH, BOTH])
        self.yes((4, CALMED[1], CALMED[2][:2] + ((),)), [BOTH], [BOTH, (1, 2, 3)])
        self.yes((4, CALMED[1], CALMED[2][:2] + ((),)), [BOTH], [BOTH, (3,), BOTH])

    def test_houses_in_turns_of_their_own(self):
        self.yes(TWICE_TWO_MINDS, [(1, 2, 3, 4)], [(1, 2), (1, 2), (3, 4), (3, 4)])
        self.yes(TWICE_TWO_MINDS, [(1, 2), (3,), (4,)], [(1, 2), (1, 2), (3,), (4,)])
        self.no(TWICE_TWO_MINDS, [(1, 2), (3,), (4,)], [(1, 2), (1, 2), (3,)])

    def test_one_house_behind_the_other(self):
        self.yes(THREE_MINDS, [(1,), (2,), (3,)], [(1,), (2,), (3,)] * 4)
        self.no(THREE_MINDS, [(1,), (2,), (3,)], [(1,), (2,), (3,)] * 3)
        self.no(THREE_MINDS, [(1,), (2,)], [(1,), (2,), (3,)] * 4)

    def test_no_guild_with_an_order_has_one(self):
        for guild in (PAIR, SQUARE):
            turns = plain_turns(guild)
            for lead in ([], [turns[-1]]):
                for size in (1, 2, 3):
                    for around in list(product(turns, repeat=size))[:400]:
                        self.no(guild, lead, list(around))


class TestTurns(IsEndless):
    def test_turns_that_are_no_turns(self):
        for odd in ((), (2, 1), (1, 1), (0,), (0, 1, 2), (0, 1), (1, 2, 3), (3,), (-1,), (1, 2, 2), (HUGE,), (-1, 1, 2),
                    [1, 2], (True, 2), (True,), (False, 1, 2), (1, "2"), ("1", "2"), "12", (1, None), ((1, 2),), (1, (2,)),
                    None, 1, 12, True, [], [1], ([],)):
            self.no(TWO_MINDS, [odd], [BOTH, BOTH])
            self.no(TWO_MINDS, [BOTH, odd], [BOTH, BOTH])
            self.no(TWO_MINDS, [odd, BOTH], [BOTH, BOTH])
            for at in range(3):
                around = [BOTH, BOTH]
                around.insert(at, odd)
                self.no(TWO_MINDS, [BOTH], around)
            self.no(TWO_MINDS, [BOTH], [odd, odd])
            self.no(TWO_MINDS, [BOTH], [BOTH, odd])

    def test_other_kinds_within(self):
        for odd in loosened([BOTH]):
            self.no(TWO_MINDS, odd, [BOTH, BOTH])
        for odd in loosened([BOTH, BOTH]):
            self.no(TWO_MINDS, [BOTH], odd)
        self.no(TWO_MINDS, (BOTH,), [BOTH, BOTH])
        self.no(TWO_MINDS, [BOTH], (BOTH, BOTH))

    def test_anything(self):
        for guild in (PAIR, TWO_MINDS, SEVEN, THREE_MINDS):
            for odd in ODD_THINGS + MORE_DEEP_THINGS:
                self.no(guild, odd, odd)
                self.no(guild, [odd], [odd])
                self.no(guild, [], odd)
                self.no(guild, odd, [tuple(range(1, guild[0]))])
        for odd in ODD_THINGS + MORE_DEEP_THINGS:
            # Without turns the lead stays at the first stand, which is no beginning of this round.
            self.no(TWO_MINDS, odd, [BOTH, BOTH])
            self.no(TWO_MINDS, [BOTH], odd)
            self.no(TWO_MINDS, with_place([BOTH] * 3, 1, odd), [BOTH, BOTH])
            self.no(TWO_MINDS, [BOTH], with_place([BOTH] * 2, 1, odd))

    def test_lead_without_turns(self):
        # A house that can have a way once can have one ever after, so the first stand doesn't come again.
        for guild in [TWO_MINDS] + random_guilds(131, 30, (2, 3), 2):
            for size in (1, 2, 3, 4):
                for around in list(product(plain_turns(guild), repeat=size))[:81]:
                    self.assertIs(plain_is_endless(guild, [], list(around)), False)
                    self.no(guild, [], list(around))

    def test_many_runs(self):
        found = 0
        for guild in [TWO_MINDS, THREE_MINDS, CALMED] + random_guilds(132, 40, (2, 3, 4), 3):
            turns = plain_turns(guild)
            runs = [list(run) for size in (1, 2, 3, 4) for run in product(turns[-3:], repeat=size)]
            for lead in [[turn] for turn in turns] + [[turns[-1], turns[0]], [turns[-1], turns[-1]]]:
                for around in runs:
                    right = plain_is_endless(guild, lead, around)
                    self.assertIs(is_endless(guild, lead, around), right)
                    found += right
        self.assertGreater(found, 5)


class TestNothingChanged(IsEndless):
    def test_things_are_as_they_were(self):
        for lead, around in (([BOTH], [BOTH, BOTH]), ([[1], [2]], [[[]]]), ([(2, 1)], [(1,), (2, 1)])):
            before = copy.deepcopy((lead, around))
            one = is_endless(TWO_MINDS, lead, around)
            self.assertEqual((lead, around), before)
            self.assertIs(is_endless(TWO_MINDS, lead, around), one)

    def test_long_runs(self):
        self.yes(TWO_MINDS, [BOTH] * 999, [BOTH] * 2000)
        turn = (1, 2, 3, 4, 5)
        self.yes(FIVE_MINDS, [turn], [turn, turn] * 500)


if __name__ == "__main__":
    unittest.main()

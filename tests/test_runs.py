"""Points 7 and 8: where runs lead, their changes, and rounds; and point 2 as far as it speaks of these."""

import unittest
from itertools import permutations
from random import Random

from guild_samples import (
    ALL_SAMPLES, ALONE, CALMED, CHAIN, FIVE_MINDS, NO_LIKES, PAIR, SEVEN, SEVEN_BARE, SQUARE, THREE_MINDS,
    TWICE_TWO_MINDS, TWO_MINDS, random_guilds,
)
from likedways.runs import by_rounds, changes, led
from plain_answers import plain_by_rounds, plain_first, plain_led, plain_round, plain_stands, plain_turns

FIRST = ((0,), (), ())
DIRECT = ((0,), (1, 0), (2, 0))
CROSSED = ((0,), (1, 2, 0), (2, 1, 0))
SOME = list(ALL_SAMPLES) + random_guilds(71, 60, (2, 3, 4, 5), 3)


def some_runs(seed):
    """Triples (guild, stand, run) of all sizes."""
    chance = Random(seed)
    rows = []
    for guild in SOME:
        turns = plain_turns(guild)
        for size in (0, 1, 2, 7):
            stand = ((0,),) + tuple(chance.choice(((),) + liked) for liked in guild[2])
            rows.append((guild, stand, [chance.choice(turns) for _ in range(size)]))
    return rows


class TestLed(unittest.TestCase):
    def test_without_turns(self):
        self.assertEqual(led(TWO_MINDS, FIRST, []), [])
        self.assertEqual(led(TWO_MINDS, FIRST, [], last=False), [])
        self.assertEqual(led(TWO_MINDS, FIRST, [], last=True), FIRST)
        self.assertEqual(led(TWO_MINDS, CROSSED, [], last=True), CROSSED)

    def test_one_turn(self):
        self.assertEqual(led(TWO_MINDS, FIRST, [(2,)]), [((0,), (), (2, 0))])
        self.assertEqual(led(TWO_MINDS, FIRST, [(2,)], last=False), [((0,), (), (2, 0))])
        self.assertEqual(led(TWO_MINDS, FIRST, [(2,)], last=True), ((0,), (), (2, 0)))

    def test_several_turns(self):
        run = [(1, 2), (1, 2), (1, 2), (1,)]
        stands = [DIRECT, CROSSED, DIRECT, ((0,), (1, 2, 0), (2, 0))]
        self.assertEqual(led(TWO_MINDS, FIRST, run), stands)
        self.assertEqual(led(TWO_MINDS, FIRST, run, last=True), stands[-1])

    def test_stands_that_come_again_are_told_again(self):
        self.assertEqual(led(PAIR, ((0,), ()), [(1,)] * 3), [((0,), (1, 0))] * 3)
        self.assertEqual(led(ALONE, ((0,), ()), [(1,)] * 4), [((0,), ())] * 4)

    def test_from_another_stand(self):
        self.assertEqual(led(TWO_MINDS, CROSSED, [(2,), (1,)]), [((0,), (1, 2, 0), (2, 0))] * 2)

    def test_many_runs(self):
        for guild, stand, run in some_runs(72):
            right = plain_led(guild, stand, run)
            self.assertEqual(repr(led(guild, stand, run)), repr(right[1:]))
            self.assertEqual(repr(led(guild, stand, run, last=False)), repr(right[1:]))
            self.assertEqual(repr(led(guild, stand, run, last=True)), repr(right[-1]))

    def test_last_by_name_alone(self):
        with self.assertRaises(TypeError):
            led(TWO_MINDS, FIRST, [(1,)], True)

    def test_new_list_each_time(self):
        for run in ([], [(1,)], [(1,), (2,), (1, 2)]):
            one, other = led(TWO_MINDS, FIRST, run), led(TWO_MINDS, FIRST, run)
            shown = repr(other)
            self.assertIsNot(one, run)
            one.append(None)
            self.assertEqual(repr(other), shown)
            self.assertEqual(repr(led(TWO_MINDS, FIRST, run)), shown)

    def test_what_was_handed_in_is_as_it_was(self):
        for guild, stand, run in some_runs(73):
            shown = repr((guild, stand, run))
            led(guild, stand, run)
            led(guild, stand, run, last=True)
            changes(guild, stand, run)
            self.assertEqual(repr((guild, stand, run)), shown)


class TestChanges(unittest.TestCase):
    def test_none(self):
        self.assertEqual(changes(TWO_MINDS, FIRST, []), 0)
        self.assertEqual(changes(ALONE, ((0,), ()), [(1,), (1,)]), 0)
        self.assertEqual(changes(PAIR, ((0,), (1, 0)), [(1,), (1,)]), 0)

    def test_each_house_counts_in_each_turn(self):
        self.assertEqual(changes(TWO_MINDS, FIRST, [(1,)]), 1)
        self.assertEqual(changes(TWO_MINDS, FIRST, [(1, 2)]), 2)
        self.assertEqual(changes(TWO_MINDS, FIRST, [(1, 2), (1, 2), (1, 2), (1,)]), 7)

    def test_a_change_back_counts_too(self):
        self.assertEqual(changes(TWO_MINDS, DIRECT, [(1, 2), (1, 2)]), 4)
        self.assertEqual(led(TWO_MINDS, DIRECT, [(1, 2), (1, 2)], last=True), DIRECT)

    def test_a_house_that_keeps_its_way_does_not_count(self):
        self.assertEqual(changes(PAIR, ((0,), ()), [(1,), (1,), (1,)]), 1)
        self.assertEqual(changes(CHAIN, plain_first(CHAIN), [(1, 2, 3, 4, 5, 6)]), 1)
        self.assertEqual(changes(CHAIN, plain_first(CHAIN), [(1, 2, 3, 4, 5, 6)] * 9), 6)

    def test_many_runs(self):
        for guild, stand, run in some_runs(74):
            stands = plain_led(guild, stand, run)
            right = 0
            for ahead, behind in zip(stands, stands[1:]):
                right += sum(ahead[house] != behind[house] for house in range(guild[0]))
            told = changes(guild, stand, run)
            self.assertEqual(told, right)
            self.assertIs(type(told), int)


class TestByRounds(unittest.TestCase):
    def test_rests_at_once(self):
        self.assertEqual(by_rounds(ALONE), ("rests", 0, ((0,), ())))
        self.assertEqual(by_rounds(NO_LIKES), ("rests", 0, FIRST))
        self.assertEqual(by_rounds(SEVEN_BARE), ("rests", 0, plain_first(SEVEN_BARE)))

    def test_rests_behind_one_round(self):
        self.assertEqual(by_rounds(PAIR), ("rests", 1, ((0,), (1, 0))))
        self.assertEqual(by_rounds(TWO_MINDS), ("rests", 1, ((0,), (1, 0), (2, 1, 0))))
        self.assertEqual(by_rounds(SEVEN), ("rests", 1, ((0,),) + tuple((house, 0) for house in range(1, 7))))

    def test_told_order_counts(self):
        self.assertEqual(by_rounds(TWO_MINDS, houses=(1, 2)), ("rests", 1, ((0,), (1, 0), (2, 1, 0))))
        self.assertEqual(by_rounds(TWO_MINDS, houses=(2, 1)), ("rests", 1, ((0,), (1, 2, 0), (2, 0))))

    def test_rests_behind_several_rounds(self):
        stand = ((0,),) + tuple(tuple(range(house, -1, -1)) for house in range(1, 7))
        self.assertEqual(by_rounds(CHAIN), ("rests", 1, stand))
        self.assertEqual(by_rounds(CHAIN, houses=(6, 5, 4, 3, 2, 1)), ("rests", 6, stand))
        self.assertEqual(by_rounds(CHAIN, houses=(2, 1, 4, 3, 6, 5)), ("rests", 4, stand))
        self.assertEqual(by_rounds(SQUARE), ("rests", 3, ((0,), (1, 2, 3, 0), (2, 3, 0), (3, 0))))

    def test_never_rests(self):
        stands = [
            ((0,), (1, 0), (2, 0), (3, 1, 0)),
            ((0,), (1, 2, 0), (2, 0), (3, 0)),
            ((0,), (1, 2, 0), (2, 3, 0), (3, 0)),
            ((0,), (1, 0), (2, 3, 0), (3, 1, 0)),
        ]
        self.assertEqual(by_rounds(THREE_MINDS), ("round", 1, stands))
        self.assertEqual(by_rounds(THREE_MINDS, houses=(1, 2, 3)), ("round", 1, stands))

    def test_the_stands_come_again_without_end(self):
        kind, ahead, stands = by_rounds(THREE_MINDS)
        self.assertEqual(kind, "round")
        row = [plain_first(THREE_MINDS)]
        for _ in range(ahead + 2 * len(stands)):
            row.append(plain_round(THREE_MINDS, row[-1], (1, 2, 3)))
        self.assertEqual(row[ahead:ahead + len(stands)], stands)
        self.assertEqual(row[ahead + len(stands):ahead + 2 * len(stands)], stands)
        self.assertEqual(len(set(row)), ahead + len(stands))

    def test_rising_order_where_none_is_told(self):
        for guild in SOME:
            right = plain_by_rounds(guild, range(1, guild[0]))
            self.assertEqual(repr(by_rounds(guild)), repr(right))
            self.assertEqual(repr(by_rounds(guild, houses=())), repr(right))
            self.assertEqual(repr(by_rounds(guild, houses=tuple(range(1, guild[0])))), repr(right))

    def test_every_order(self):
        found = set()
        for guild in SOME:
            for houses in list(permutations(range(1, guild[0])))[:24]:
                right = plain_by_rounds(guild, houses)
                self.assertEqual(repr(by_rounds(guild, houses=houses)), repr(right))
                found.add(right[:2])
        self.assertLessEqual({("rests", 0), ("rests", 1), ("rests", 2), ("round", 1)}, found)

    def test_houses_by_name_alone(self):
        with self.assertRaises(TypeError):
            by_rounds(TWO_MINDS, (1, 2))

    def test_new_list_each_time(self):
        for guild in (THREE_MINDS, FIVE_MINDS):
            one, other = by_rounds(guild), by_rounds(guild)
            self.assertIs(type(one[2]), list)
            shown = repr(other)
            one[2].clear()
            self.assertEqual(repr(other), shown)
            self.assertEqual(repr(by_rounds(guild)), shown)

    def test_same_asked_again(self):
        for guild in (CALMED, TWICE_TWO_MINDS, THREE_MINDS):
            shown = repr(guild)
            houses = tuple(range(guild[0] - 1, 0, -1))
            one = by_rounds(guild, houses=houses)
            by_rounds(guild)
            self.assertEqual(by_rounds(guild, houses=houses), one)
            self.assertEqual(repr(guild), shown)
            self.assertIn(one[-1] if one[0] == "rests" else one[-1][0], plain_stands(guild))


if __name__ == "__main__":
    unittest.main()

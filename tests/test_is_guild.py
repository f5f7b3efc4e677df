"""Point 4: what a guild is; and point 2 as far as it speaks of that."""

import copy
import unittest
from itertools import combinations, product

from guild_samples import ALL_ROADS, ALONE, GUILDS, PAIR, SEVEN, SQUARE, TWO_MINDS, ways_of
from likedways.guilds import is_guild
from odd_things import DEEP_THINGS, HUGE, ODD_THINGS, deep, with_place


class TestIsGuild(unittest.TestCase):
    def yes(self, thing):
        self.assertIs(is_guild(thing), True, repr(thing)[:300])

    def no(self, thing):
        self.assertIs(is_guild(thing), False, repr(thing)[:300])


class TestGuilds(TestIsGuild):
    def test_samples(self):
        for guild in GUILDS:
            self.yes(guild)

    def test_each_number_of_houses(self):
        for many in range(-3, 20):
            (self.yes if 2 <= many <= 7 else self.no)((many, (), ((),) * (many - 1)))

    def test_one_house_and_eight_houses(self):
        self.no((1, (), ()))
        self.no((0, (), ()))
        self.no((8, (), ((),) * 7))
        self.no((8, ((0, 1),), (((1, 0),),) + ((),) * 6))

    def test_all_roads_of_seven_houses(self):
        self.yes((7, tuple(combinations(range(7), 2)), ((),) * 6))

    def test_roads_may_lie_apart_from_the_hall(self):
        self.yes((4, ((2, 3),), ((), (), ())))

    def test_likes_may_leave_ways_out_and_go_against_length(self):
        self.yes((3, TWO_MINDS[1], (((1, 0), (1, 2, 0)), ())))
        self.yes((3, TWO_MINDS[1], (((1, 2, 0),), ())))

    def test_six_liked_ways(self):
        ways = ways_of(1, 5, combinations(range(5), 2))
        self.assertGreater(len(ways), 6)
        roads = tuple(combinations(range(5), 2))
        self.yes((5, roads, (tuple(ways[:6]), (), (), ())))
        self.yes((5, roads, (tuple(reversed(ways[:6])), (), (), ())))
        self.no((5, roads, (tuple(ways[:7]), (), (), ())))
        self.no((5, roads, (tuple(ways), (), (), ())))

    def test_seven_liked_ways_of_the_last_house(self):
        ways = tuple(ways_of(6, 7, ALL_ROADS)[:7])
        self.yes((7, ALL_ROADS, ((),) * 5 + (ways[:6],)))
        self.no((7, ALL_ROADS, ((),) * 5 + (ways,)))


class TestRoads(TestIsGuild):
    def roads(self, many, *roads):
        return (many, roads, ((),) * (many - 1))

    def test_not_rising(self):
        self.yes(self.roads(3, (0, 1), (0, 2), (1, 2)))
        self.no(self.roads(3, (0, 2), (0, 1)))
        self.no(self.roads(3, (0, 1), (1, 2), (0, 2)))
        self.no(self.roads(3, (1, 2), (0, 1), (0, 2)))

    def test_told_twice(self):
        self.no(self.roads(2, (0, 1), (0, 1)))
        self.no(self.roads(3, (0, 1), (1, 2), (1, 2)))

    def test_wrong_way_round_or_to_itself(self):
        self.no(self.roads(2, (1, 0)))
        self.no(self.roads(3, (0, 1), (2, 1)))
        self.no(self.roads(2, (0, 0)))
        self.no(self.roads(2, (1, 1)))

    def test_house_that_there_is_not(self):
        self.no(self.roads(2, (0, 2)))
        self.no(self.roads(2, (-1, 0)))
        self.no(self.roads(7, (0, 7)))
        self.no(self.roads(3, (0, HUGE)))
        self.no(self.roads(3, (-HUGE, 1)))

    def test_not_pairs(self):
        for odd in ((), (0,), (0, 1, 2), [0, 1], "01", None, 1, 0, True, ((0, 1),), (0, "1"), (0, None), (None, 1),
                    ("0", "1"), (0, True), (False, 1), (False, True), (0, (1,)), ([], [])) + DEEP_THINGS:
            self.no(self.roads(3, odd))
            self.no(self.roads(3, odd, (1, 2)))
            self.no(self.roads(3, (0, 1), odd))

    def test_not_a_tuple(self):
        for odd in ([], [(0, 1)], ((0, 1), [1, 2]), None, "", "roads", 0, True, (0, 1)) + DEEP_THINGS:
            self.no((3, odd, ((), ())))

    def test_every_two_pairs(self):
        pairs = list(product(range(-1, 4), repeat=2))
        good = [(one, other) for one, other in pairs if 0 <= one < other < 3]
        for one in pairs:
            self.assertIs(is_guild(self.roads(3, one)), one in good, one)
            for other in pairs:
                right = one in good and other in good and good.index(one) < good.index(other)
                self.assertIs(is_guild(self.roads(3, one, other)), right, (one, other))


class TestWays(TestIsGuild):
    def liking(self, *ways):
        return (SQUARE[0], SQUARE[1], (ways, (), ()))

    def test_liked_twice(self):
        self.yes(self.liking((1, 0), (1, 2, 3, 0)))
        self.no(self.liking((1, 0), (1, 0)))
        self.no(self.liking((1, 0), (1, 2, 3, 0), (1, 0)))

    def test_begins_elsewhere(self):
        self.no(self.liking((2, 1, 0)))
        self.no(self.liking((3, 0)))
        self.no(self.liking((0,)))
        self.no(self.liking((0, 1)))
        self.no((SQUARE[0], SQUARE[1], ((), ((1, 0),), ())))
        self.no((SQUARE[0], SQUARE[1], (((3, 0),), ((2, 3, 0),), ((1, 0),))))

    def test_ends_elsewhere(self):
        self.no(self.liking((1,)))
        self.no(self.liking((1, 2)))
        self.no(self.liking((1, 2, 3)))
        self.no(self.liking((1, 0, 3)))
        self.no(self.liking(()))

    def test_comes_to_a_house_twice(self):
        self.no(self.liking((1, 2, 1, 0)))
        self.no(self.liking((1, 0, 3, 0)))
        self.no(self.liking((1, 2, 3, 2, 1, 0)))
        self.no(self.liking((1, 1, 0)))
        self.no(self.liking((1, 0, 0)))

    def test_along_no_road(self):
        self.no(self.liking((1, 3, 0)))
        self.no(self.liking((1, 2, 0)))
        self.no((3, ((0, 2), (1, 2)), (((1, 0),), ())))
        self.no((2, (), (((1, 0),),)))

    def test_house_that_there_is_not(self):
        for odd in (4, 7, -1, HUGE, -HUGE):
            self.no(self.liking((1, odd, 0)))
            self.no(self.liking((odd, 0)))
            self.no(self.liking((1, odd)))

    def test_not_tuples_of_whole_numbers(self):
        for odd in ODD_THINGS + DEEP_THINGS + ("10", (True, 0), (1, False), (1, "0"), (1, None), (1, (0,)),
                                               ((1, 0),), (1, [], 0), (1, 2, 3, False), (1, 2, True, 0)):
            self.no(self.liking(odd))
            self.no(self.liking((1, 0), odd))
            self.no(self.liking(odd, (1, 0)))

    def test_truths_beside_the_same_numbers(self):
        self.no((2, ((0, 1),), (((True, False),),)))
        self.no((2, ((False, True),), (((1, 0),),)))
        self.no((2, ((0, 1),), (((1, 0), (True, 0)),)))

    def test_every_short_row_of_houses(self):
        for house in (1, 2, 3):
            right = ways_of(house, 4, SQUARE[1])
            for size in range(6):
                for row in product(range(-1, 5), repeat=size):
                    likes = tuple((row,) if one == house else () for one in (1, 2, 3))
                    if is_guild((4, SQUARE[1], likes)) is not (row in right):
                        self.fail((house, row))

    def test_every_way_of_seven_houses(self):
        for house in range(1, 7):
            ways = ways_of(house, 7, ALL_ROADS)
            self.assertEqual(len(ways), 326)
            for way in ways:
                self.yes((7, ALL_ROADS, tuple((way,) if one == house else () for one in range(1, 7))))


class TestLikes(TestIsGuild):
    def test_too_few_or_too_many(self):
        self.no((2, (), ()))
        self.no((2, (), ((), ())))
        self.no((3, TWO_MINDS[1], TWO_MINDS[2][:1]))
        self.no((3, TWO_MINDS[1], TWO_MINDS[2] + ((),)))
        self.no((3, TWO_MINDS[1], (((0,),),) + TWO_MINDS[2]))
        self.no((7, (), ((),) * 5))
        self.no((7, (), ((),) * 7))

    def test_not_a_tuple(self):
        for odd in ([()], [((1, 0),)], None, "", "likes", "x", 1, True) + DEEP_THINGS[2:]:
            self.no((2, ((0, 1),), odd))
        self.yes((2, ((0, 1),), deep(2, tuple)))

    def test_ways_of_a_house_are_no_tuple(self):
        for odd in ([], [(1, 0)], None, "", "10", 0, True, (1, 0)) + DEEP_THINGS:
            self.no((2, ((0, 1),), (odd,)))
            self.no((3, ((0, 1),), ((), odd)))


class TestAnything(TestIsGuild):
    def test_odd_things(self):
        for odd in ODD_THINGS + DEEP_THINGS:
            self.no(odd)
            self.no((odd,))
            self.no((odd, odd, odd))
            self.no([odd, odd, odd])

    def test_odd_things_in_each_place(self):
        # None of the odd things fits in any place of TWO_MINDS but the number 3 in its own.
        for odd in ODD_THINGS + DEEP_THINGS:
            if odd != 3:
                self.no(with_place(TWO_MINDS, 0, odd))
            self.no(with_place(TWO_MINDS, 1, odd))
            self.no(with_place(TWO_MINDS, 2, odd))

    def test_truths_are_no_number_of_houses(self):
        self.no((True, (), ()))
        self.no((False, (), ()))
        self.no((True, (), ((),)))

    def test_number_of_houses_is_no_whole_number(self):
        for odd in ("2", None, (2,), [2], "", "two", HUGE, -HUGE, -2):
            self.no((odd, (), ((),)))

    def test_too_short_too_long_or_a_list(self):
        for guild in GUILDS:
            self.no(guild[:2])
            self.no(guild[1:])
            self.no(guild + ((),))
            self.no((guild,))
            self.no(list(guild))
            self.no((guild[0], list(guild[1]), guild[2]))
            self.no((guild[0], guild[1], list(guild[2])))
            self.no((guild[0], guild[1], tuple(list(liked) for liked in guild[2])))
            self.no((guild[1], guild[0], guild[2]))
            self.no((guild[0], guild[2], guild[1]))

    def test_lists_deep_in_a_guild(self):
        self.no((7, tuple(list(road) for road in ALL_ROADS), SEVEN[2]))
        self.no((7, ALL_ROADS, tuple(tuple(list(way) for way in liked) for liked in SEVEN[2])))
        self.no((7, ALL_ROADS[:-1] + ([5, 6],), ((),) * 6))

    def test_truths_deep_in_a_guild(self):
        self.yes(PAIR)
        self.no((2, ((0, True),), (((1, 0),),)))
        self.no((2, ((False, 1),), (((1, 0),),)))
        self.no((2, ((0, 1),), (((True, 0),),)))
        self.no((2, ((0, 1),), (((1, False),),)))


class TestNothingChanged(TestIsGuild):
    def test_thing_is_as_it_was(self):
        things = (
            [3, [[0, 1], [0, 2]], [[[1, 0]], []]],
            (3, [(0, 2), (0, 1)], ([(1, 0)], [])),
            (3, ((0, 1), [0, 2]), ([], [[2, 0]])),
            SEVEN,
            deep(40, list),
        )
        for thing in things:
            before = copy.deepcopy(thing)
            is_guild(thing)
            self.assertEqual(thing, before)

    def test_same_asked_again(self):
        for guild in GUILDS:
            self.yes(guild)
        for odd in ODD_THINGS + DEEP_THINGS:
            self.no(odd)
        for guild in GUILDS:
            self.yes(guild)
            self.yes(copy.deepcopy(guild))

    def test_list_that_changes_between(self):
        roads = [(0, 1)]
        self.no((2, roads, ((),)))
        roads.clear()
        self.no((2, roads, ((),)))
        self.yes(ALONE)


if __name__ == "__main__":
    unittest.main()

"""Point 5: guilds without some roads, and with some ways dropped; and point 2 as far as it speaks of these."""

import copy
import unittest
from itertools import combinations

from guild_samples import ALL_ROADS, ALONE, GUILDS, LONG_WAYS, PAIR, SEVEN, SQUARE, TWO_MINDS
from likedways.guilds import dropped, is_guild, without

HUGE = 10 ** 39
NO_ROADS = [
    (0, 0), (1, 1), (0, 7), (7, 0), (6, 8), (-1, 0), (0, -1), (-1, -2), (HUGE, 0), (0, HUGE), (-HUGE, HUGE),
]
NO_WAYS = [
    (), (0,), (1,), (0, 1), (1, 0, 1), (1, 7, 0), (7, 0), (-1, 0), (HUGE,), (1, HUGE, 0), (0, 0), (1, 1, 0),
]


def goes_along(way, road):
    return any(set(step) == set(road) for step in zip(way, way[1:]))


class Left(unittest.TestCase):
    def same(self, told, right):
        """Equal, and made of the same kinds throughout: tuples, not lists."""
        self.assertEqual(told, right)
        self.assertEqual(repr(told), repr(right))
        self.assertIs(is_guild(told), True)


class TestWithout(Left):
    def test_one_road(self):
        self.same(without(TWO_MINDS, [(1, 2)]), (3, ((0, 1), (0, 2)), (((1, 0),), ((2, 0),))))
        self.same(without(TWO_MINDS, [(0, 1)]), (3, ((0, 2), (1, 2)), (((1, 2, 0),), ((2, 0),))))
        self.same(without(TWO_MINDS, [(0, 2)]), (3, ((0, 1), (1, 2)), (((1, 0),), ((2, 1, 0),))))

    def test_either_way_round(self):
        for road in SQUARE[1]:
            self.same(without(SQUARE, [road[::-1]]), without(SQUARE, [road]))
        self.same(without(TWO_MINDS, [(2, 1)]), (3, ((0, 1), (0, 2)), (((1, 0),), ((2, 0),))))
        self.same(without(PAIR, [(1, 0)]), ALONE)

    def test_ways_that_go_along_it_either_way_round(self):
        # 1 goes to 2 along the road 1-2, and 2 goes back to 1 along it.
        self.same(
            without(SQUARE, [(1, 2)]),
            (4, ((0, 1), (0, 3), (2, 3)), (((1, 0),), ((2, 3, 0),), ((3, 0),))),
        )
        self.same(
            without(SQUARE, [(3, 2)]),
            (4, ((0, 1), (0, 3), (1, 2)), (((1, 0),), ((2, 1, 0),), ((3, 0),))),
        )

    def test_road_in_the_middle_of_a_way(self):
        self.same(
            without(LONG_WAYS, [(2, 6)]),
            (7, tuple(road for road in ALL_ROADS if road != (2, 6)), ((),) * 6),
        )
        self.same(
            without(LONG_WAYS, [(3, 1)]),
            (
                7, tuple(road for road in ALL_ROADS if road != (1, 3)),
                ((), (), ((3, 4, 5, 6, 2, 1, 0),), (), (), ()),
            ),
        )

    def test_houses_beside_one_another_on_a_way_alone_count(self):
        # 3 and 2, 3 and 0 are on both ways, but not one behind the other.
        self.same(
            without(LONG_WAYS, [(2, 3), (0, 3)]),
            (7, tuple(road for road in ALL_ROADS if road not in ((2, 3), (0, 3))), LONG_WAYS[2]),
        )

    def test_several_and_all(self):
        self.same(without(TWO_MINDS, [(0, 1), (0, 2)]), (3, ((1, 2),), ((), ())))
        self.same(without(TWO_MINDS, [(2, 1), (1, 0), (2, 0)]), (3, (), ((), ())))
        self.same(without(SEVEN, list(ALL_ROADS)), (7, (), ((),) * 6))

    def test_told_twice(self):
        once = without(SQUARE, [(1, 2)])
        self.same(without(SQUARE, [(1, 2), (1, 2)]), once)
        self.same(without(SQUARE, [(1, 2), (2, 1)]), once)
        self.same(without(SQUARE, [(2, 1), (2, 1), (1, 2)]), once)

    def test_none(self):
        for guild in GUILDS:
            self.same(without(guild, []), guild)

    def test_roads_that_it_does_not_have(self):
        for guild in GUILDS:
            self.same(without(guild, NO_ROADS), guild)
            for road in NO_ROADS:
                self.same(without(guild, [road]), guild)
        self.same(without(SQUARE, [(0, 2), (3, 1)]), SQUARE)
        self.same(without(SQUARE, NO_ROADS + [(2, 1)] + NO_ROADS), without(SQUARE, [(1, 2)]))

    def test_order_of_liking_stays(self):
        self.assertEqual(without(SEVEN, [(1, 2)])[2][0], ((1, 0), (1, 3, 0), (1, 4, 0), (1, 5, 0), (1, 6, 0)))
        self.assertEqual(without(SEVEN, [(0, 1)])[2][0], SEVEN[2][0][1:])
        self.assertEqual(without(SEVEN, [(0, 1)])[2][1], ((2, 0), (2, 3, 0), (2, 4, 0), (2, 5, 0), (2, 6, 0)))

    def test_every_two_roads(self):
        for guild in GUILDS:
            for roads in combinations(guild[1], 2):
                right = (
                    guild[0],
                    tuple(road for road in guild[1] if road not in roads),
                    tuple(
                        tuple(way for way in liked if not any(goes_along(way, road) for road in roads))
                        for liked in guild[2]
                    ),
                )
                self.same(without(guild, list(roads)), right)


class TestDropped(Left):
    def test_one_way(self):
        self.same(dropped(TWO_MINDS, [(1, 2, 0)]), (3, TWO_MINDS[1], (((1, 0),), ((2, 1, 0), (2, 0)))))
        self.same(dropped(TWO_MINDS, [(2, 0)]), (3, TWO_MINDS[1], (((1, 2, 0), (1, 0)), ((2, 1, 0),))))
        self.same(dropped(PAIR, [(1, 0)]), (2, ((0, 1),), ((),)))

    def test_roads_and_longer_ways_stay(self):
        # (1, 0) is an end of (2, 1, 0), which stays all the same.
        self.same(dropped(TWO_MINDS, [(1, 0)]), (3, TWO_MINDS[1], (((1, 2, 0),), ((2, 1, 0), (2, 0)))))

    def test_several_and_all(self):
        self.same(dropped(TWO_MINDS, [(2, 1, 0), (1, 2, 0)]), (3, TWO_MINDS[1], (((1, 0),), ((2, 0),))))
        ways = [way for liked in SEVEN[2] for way in liked]
        self.same(dropped(SEVEN, ways), (7, ALL_ROADS, ((),) * 6))

    def test_told_twice(self):
        self.same(dropped(SQUARE, [(3, 0), (3, 0)]), dropped(SQUARE, [(3, 0)]))

    def test_none(self):
        for guild in GUILDS:
            self.same(dropped(guild, []), guild)

    def test_ways_that_it_does_not_have(self):
        for guild in GUILDS:
            self.same(dropped(guild, NO_WAYS), guild)
            for way in NO_WAYS:
                self.same(dropped(guild, [way]), guild)
        # Ways along its roads that no house of it likes, and a liked one turned round.
        self.same(dropped(SQUARE, [(3, 2, 1, 0), (0, 3, 2), (2, 3), (0, 3)]), SQUARE)
        self.same(dropped(SQUARE, NO_WAYS + [(2, 1, 0)] + NO_WAYS), dropped(SQUARE, [(2, 1, 0)]))

    def test_order_of_liking_stays(self):
        self.assertEqual(
            dropped(SEVEN, [(4, 2, 0), (4, 0)])[2][3],
            ((4, 1, 0), (4, 3, 0), (4, 5, 0), (4, 6, 0)),
        )

    def test_every_two_ways(self):
        for guild in GUILDS:
            ways = [way for liked in guild[2] for way in liked]
            for two in combinations(ways, 2):
                right = (
                    guild[0], guild[1],
                    tuple(tuple(way for way in liked if way not in two) for liked in guild[2]),
                )
                self.same(dropped(guild, list(two)), right)


class TestNothingChangedOrKept(Left):
    def test_handed_in_is_as_it_was(self):
        for guild in GUILDS:
            before = copy.deepcopy(guild)
            roads = [(2, 1), (9, 9), (1, 0), (1, 2), (2, 1)]
            without(guild, roads)
            self.assertEqual(roads, [(2, 1), (9, 9), (1, 0), (1, 2), (2, 1)])
            ways = [(1, 2, 0), (1, 0), (1, 0), (), (9, 9)]
            dropped(guild, ways)
            self.assertEqual(ways, [(1, 2, 0), (1, 0), (1, 0), (), (9, 9)])
            self.assertEqual(repr(guild), repr(before))

    def test_later_changes_of_the_list_change_no_answer(self):
        roads, ways = [(1, 2)], [(1, 0)]
        left, less = without(SQUARE, roads), dropped(SQUARE, ways)
        shown = repr((left, less))
        roads.append((0, 3))
        ways.append((3, 0))
        self.assertEqual(repr((left, less)), shown)
        self.assertNotEqual(without(SQUARE, roads), left)
        self.assertNotEqual(dropped(SQUARE, ways), less)

    def test_same_asked_again(self):
        for guild in GUILDS:
            one = without(guild, [(1, 2)]), dropped(guild, [(1, 0)])
            without(guild, [(0, 1)])
            dropped(guild, [(1, 2, 0)])
            self.assertEqual((without(guild, [(1, 2)]), dropped(guild, [(1, 0)])), one)

    def test_one_behind_the_other(self):
        both = without(dropped(SQUARE, [(1, 0)]), [(3, 2)])
        self.same(both, dropped(without(SQUARE, [(2, 3)]), [(1, 0)]))
        self.same(both, (4, ((0, 1), (0, 3), (1, 2)), ((), ((2, 1, 0),), ((3, 0),))))


if __name__ == "__main__":
    unittest.main()

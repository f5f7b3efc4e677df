"""Point 11: the stand that grows by an order, and ways passed over; points 2 and 3 as far as they speak of these."""

import unittest
from random import Random

from guild_samples import (
    ALL_SAMPLES, ALONE, CALMED, CHAIN, LONG_WAYS, NO_LIKES, PAIR, SEVEN, SEVEN_BARE, SQUARE, THREE_MINDS, TWO_MINDS,
    WITH_ORDER, WITH_RING, random_guilds,
)
from likedways.errors import NoOrder, WayError
from likedways.growing import grown, passed_over
from likedways.guilds import dropped, without
from likedways.orders import first_order
from likedways.stands import choice, is_stand, is_steady, steady_stands
from plain_answers import plain_grown, plain_led, plain_liked, plain_orders, plain_passed_over, plain_rings, plain_stands

RANDOM = random_guilds(111, 150, (2, 3, 4, 5), 3)
ORDERED = list(WITH_ORDER) + [guild for guild in RANDOM if not plain_rings(guild)]


class TestGrown(unittest.TestCase):
    def test_samples(self):
        self.assertEqual(grown(ALONE), ((0,), ()))
        self.assertEqual(grown(PAIR), ((0,), (1, 0)))
        self.assertEqual(grown(NO_LIKES), ((0,), (), ()))
        self.assertEqual(grown(SEVEN_BARE), ((0,), (), (), (), (), (), ()))
        self.assertEqual(grown(SQUARE), ((0,), (1, 2, 3, 0), (2, 3, 0), (3, 0)))
        self.assertEqual(grown(SEVEN), ((0,),) + tuple((house, 0) for house in range(1, 7)))
        self.assertEqual(grown(CHAIN), ((0,),) + tuple(tuple(range(house, -1, -1)) for house in range(1, 7)))

    def test_ways_whose_rest_nobody_has(self):
        self.assertEqual(grown(LONG_WAYS), ((0,), (), (), (), (), (), ()))
        guild = (3, TWO_MINDS[1], (((1, 2, 0), (1, 0)), ()))
        self.assertEqual(grown(guild), ((0,), (1, 0), ()))

    def test_the_only_steady_stand(self):
        for guild in ORDERED:
            self.assertEqual(repr([grown(guild)]), repr(steady_stands(guild)))

    def test_by_every_order_the_same(self):
        for guild in ORDERED:
            orders = plain_orders(guild) if len(plain_liked(guild)) <= 7 else [first_order(guild)]
            self.assertTrue(orders)
            self.assertEqual({plain_grown(guild, order) for order in orders}, {grown(guild)})

    def test_fair_runs_come_to_rest_there(self):
        chance = Random(112)
        for guild in ORDERED:
            stand = chance.choice(plain_stands(guild) if guild[0] < 6 else [grown(guild)])
            houses = list(range(1, guild[0]))
            run = []
            for _ in range(60):
                chance.shuffle(houses)
                cut = chance.randrange(len(houses)) + 1
                run += [tuple(sorted(part)) for part in (houses[:cut], houses[cut:]) if part]
            self.assertEqual(plain_led(guild, stand, run)[-1], grown(guild))

    def test_also_where_roads_and_ways_are_taken_away(self):
        for guild in WITH_ORDER:
            for less in [without(guild, [road]) for road in guild[1]] + [
                dropped(guild, [way]) for way in plain_liked(guild)
            ]:
                self.assertEqual([grown(less)], steady_stands(less))

    def test_no_order(self):
        for guild in list(WITH_RING) + [guild for guild in RANDOM if plain_rings(guild)]:
            with self.assertRaises(WayError) as caught:
                grown(guild)
            self.assertIs(type(caught.exception), NoOrder)

    def test_no_order_although_there_is_one_steady_stand(self):
        self.assertEqual(len(steady_stands(CALMED)), 1)
        self.assertRaises(NoOrder, grown, CALMED)


class TestPassedOver(unittest.TestCase):
    def test_none(self):
        self.assertEqual(passed_over(PAIR, ((0,), (1, 0)), 1), [])
        self.assertEqual(passed_over(ALONE, ((0,), ()), 1), [])
        self.assertEqual(passed_over(TWO_MINDS, ((0,), (1, 2, 0), ()), 1), [])
        self.assertEqual(passed_over(SEVEN, grown(SEVEN), 4), [])

    def test_some(self):
        self.assertEqual(passed_over(TWO_MINDS, ((0,), (1, 0), (2, 1, 0)), 1), [((1, 2, 0), 2)])
        self.assertEqual(
            passed_over(CALMED, ((0,), (1, 0), (2, 0), ()), 1), [((1, 3, 0), 3), ((1, 2, 0), 1)],
        )
        self.assertEqual(passed_over(CALMED, ((0,), (1, 2, 0), (2, 0), ()), 1), [((1, 3, 0), 3)])

    def test_all_where_it_has_none(self):
        self.assertEqual(passed_over(PAIR, ((0,), ()), 1), [((1, 0), 1)])
        self.assertEqual(passed_over(TWO_MINDS, ((0,), (), ()), 2), [((2, 1, 0), 1), ((2, 0), 2)])
        self.assertEqual(
            passed_over(SEVEN, ((0,), (1, 0), (), (), (), (5, 0), ()), 6),
            [((6, 0), 6), ((6, 1, 0), 6), ((6, 2, 0), 2), ((6, 3, 0), 3), ((6, 4, 0), 4), ((6, 5, 0), 6)],
        )

    def test_parts_at_its_first_house(self):
        # House 2 has just the rest, so the way parts at house 1 itself, which has another one.
        self.assertEqual(passed_over(TWO_MINDS, ((0,), (1, 0), (2, 0)), 1), [((1, 2, 0), 1)])

    def test_parts_at_later_houses(self):
        way = (3, 1, 2, 6, 5, 4, 0)
        guild = (7, LONG_WAYS[1], tuple(((house, *way[way.index(house) + 1:]),) for house in range(1, 7)))
        first = ((0,), (), (), (), (), (), ())
        stand = first
        self.assertEqual(passed_over(guild, first, 3), [(way, 4)])
        for at, parts in ((5, 5), (4, 6), (3, 2), (2, 1), (1, 3)):
            house = way[at]
            stand = stand[:house] + (way[at:],) + stand[house + 1:]
            self.assertEqual(passed_over(guild, stand, 3), [(way, parts)])
        # Where a house far from the hall has the rest and one near to it hasn't, the near one counts.
        broken = stand[:4] + ((),) + stand[5:]
        self.assertEqual(passed_over(guild, broken, 3), [(way, 4)])

    def test_every_stand(self):
        for guild in list(ALL_SAMPLES) + RANDOM:
            if guild[0] > 5:
                continue
            for stand in plain_stands(guild)[:200]:
                for house in range(1, guild[0]):
                    told = passed_over(guild, stand, house)
                    self.assertEqual(repr(told), repr(plain_passed_over(guild, stand, house)))

    def test_a_house_with_its_choice_parts_elsewhere(self):
        for guild in list(ALL_SAMPLES) + RANDOM:
            if guild[0] > 5:
                continue
            for stand in plain_stands(guild)[:200]:
                for house in range(1, guild[0]):
                    parts = [at for _, at in passed_over(guild, stand, house)]
                    if choice(guild, stand, house) == stand[house]:
                        self.assertNotIn(house, parts)

    def test_in_the_order_of_liking(self):
        less = dropped(SEVEN, [(6, 0)])
        turned = less[:2] + (less[2][:5] + (less[2][5][::-1],),)
        ways = [way for way, _ in passed_over(turned, ((0,), (), (), (), (), (), (6, 1, 0)), 6)]
        self.assertEqual(ways, [(6, 5, 0), (6, 4, 0), (6, 3, 0), (6, 2, 0)])


class TestNothingChanged(unittest.TestCase):
    def test_new_list_each_time(self):
        stand = ((0,), (), ())
        one, other = passed_over(TWO_MINDS, stand, 1), passed_over(TWO_MINDS, stand, 1)
        self.assertIs(type(one), list)
        shown = repr(other)
        one.clear()
        self.assertEqual(repr(other), shown)
        self.assertEqual(repr(passed_over(TWO_MINDS, stand, 1)), shown)

    def test_same_asked_again(self):
        for guild in WITH_ORDER:
            shown = repr(guild)
            one = grown(guild)
            self.assertRaises(NoOrder, grown, THREE_MINDS)
            self.assertEqual(grown(guild), one)
            self.assertEqual(repr(guild), shown)
            self.assertIs(is_stand(guild, one), True)
            self.assertIs(is_steady(guild, one), True)


if __name__ == "__main__":
    unittest.main()

"""Guilds that several tests ask about."""

from itertools import combinations, permutations
from random import Random

ALONE = (2, (), ((),))
PAIR = (2, ((0, 1),), (((1, 0),),))
# Each house likes the way over the other one best.
TWO_MINDS = (
    3,
    ((0, 1), (0, 2), (1, 2)),
    (((1, 2, 0), (1, 0)), ((2, 1, 0), (2, 0))),
)
ALL_ROADS = tuple(combinations(range(7), 2))
SEVEN = (
    7,
    ALL_ROADS,
    tuple(
        ((house, 0),) + tuple((house, other, 0) for other in range(1, 7) if other != house)
        for house in range(1, 7)
    ),
)
SEVEN_BARE = (7, (), ((),) * 6)
SEVEN_NO_LIKES = (7, ALL_ROADS, ((),) * 6)
LONG_WAYS = (7, ALL_ROADS, ((), (), ((3, 1, 2, 6, 5, 4, 0), (3, 4, 5, 6, 2, 1, 0)), (), (), ()))
SQUARE = (
    4,
    ((0, 1), (0, 3), (1, 2), (2, 3)),
    (
        ((1, 2, 3, 0), (1, 0)),
        ((2, 3, 0), (2, 1, 0)),
        ((3, 0),),
    ),
)
GUILDS = (ALONE, PAIR, TWO_MINDS, SEVEN, SEVEN_BARE, SEVEN_NO_LIKES, LONG_WAYS, SQUARE)


def ways_of(house, many, roads):
    """All ways of a house, found by trying every row of houses."""
    joined = {frozenset(road) for road in roads}
    between = [other for other in range(1, many) if other != house]
    rows = [
        (house,) + middle + (0,)
        for size in range(len(between) + 1)
        for middle in permutations(between, size)
    ]
    return [row for row in rows if all(frozenset(step) in joined for step in zip(row, row[1:]))]


def circle(size):
    """Houses in a circle round the hall; each likes the way over the next one best, then its own road."""
    houses = range(1, size + 1)
    after = {house: house % size + 1 for house in houses}
    roads = {(0, house) for house in houses} | {tuple(sorted((house, after[house]))) for house in houses}
    likes = tuple(((house, after[house], 0), (house, 0)) for house in houses)
    return (size + 1, tuple(sorted(roads)), likes)


THREE_MINDS = circle(3)
FOUR_MINDS = circle(4)
FIVE_MINDS = circle(5)
SIX_MINDS = circle(6)
# As TWO_MINDS, but house 1 likes the way over house 3 best, and that is always there once house 3 has had a turn.
CALMED = (
    4,
    ((0, 1), (0, 2), (0, 3), (1, 2), (1, 3)),
    (((1, 3, 0), (1, 2, 0), (1, 0)), ((2, 1, 0), (2, 0)), ((3, 0),)),
)
# TWO_MINDS twice, side by side.
TWICE_TWO_MINDS = (
    5,
    ((0, 1), (0, 2), (0, 3), (0, 4), (1, 2), (3, 4)),
    (
        ((1, 2, 0), (1, 0)), ((2, 1, 0), (2, 0)),
        ((3, 4, 0), (3, 0)), ((4, 3, 0), (4, 0)),
    ),
)
# The second spoke lies two houses behind the first whole one's beginning.
FAR_SPOKE = (
    4,
    ((0, 1), (0, 3), (1, 2), (1, 3), (2, 3)),
    (((1, 2, 3, 0), (1, 0)), (), ((3, 1, 0), (3, 0))),
)
# A chain: each house waits for the one before it.
CHAIN = (
    7,
    tuple((house, house + 1) for house in range(6)),
    tuple((tuple(range(house, -1, -1)),) for house in range(1, 7)),
)
# Two rings, of three and of two pairs, that share no house.
TWO_RINGS = (
    6,
    ((0, 1), (0, 2), (0, 3), (0, 4), (0, 5), (1, 2), (1, 3), (2, 3), (4, 5)),
    (
        ((1, 2, 0), (1, 0)), ((2, 3, 0), (2, 0)), ((3, 1, 0), (3, 0)),
        ((4, 5, 0), (4, 0)), ((5, 4, 0), (5, 0)),
    ),
)
NO_LIKES = (3, ((0, 1), (0, 2), (1, 2)), ((), ()))
WITH_ORDER = (ALONE, PAIR, SEVEN, SEVEN_BARE, SEVEN_NO_LIKES, LONG_WAYS, SQUARE, CHAIN, NO_LIKES)
WITH_RING = (
    TWO_MINDS, THREE_MINDS, FOUR_MINDS, FIVE_MINDS, SIX_MINDS, CALMED, TWICE_TWO_MINDS, FAR_SPOKE, TWO_RINGS,
)
ALL_SAMPLES = WITH_ORDER + WITH_RING
# TWO_MINDS three times, side by side: 7 stands for each, which makes 343; with seven houses.
THRICE_TWO_MINDS = (
    7,
    ((0, 1), (0, 2), (0, 3), (0, 4), (0, 5), (0, 6), (1, 2), (3, 4), (5, 6)),
    tuple(((house, other, 0), (house, 0)) for house, other in ((1, 2), (2, 1), (3, 4), (4, 3), (5, 6), (6, 5))),
)
# Each house likes to go over each other one better than its own road; the stands are more than a thousand.
MANY = (
    7, ALL_ROADS,
    tuple(
        tuple((house, (house + step - 1) % 6 + 1, 0) for step in (1, 2, 3, 4, 5)) + ((house, 0),)
        for house in range(1, 7)
    ),
)

# Each house likes to go over a lesser one better than its own road: an order, and 1957 stands.
STAIRS = (
    7, ALL_ROADS,
    tuple(tuple((house, other, 0) for other in range(1, house)) + ((house, 0),) for house in range(1, 7)),
)


def random_guild(chance, many, liked):
    """A guild of so many houses that each like at most so many ways, as chance has it."""
    roads = tuple(road for road in combinations(range(many), 2) if chance.random() < 0.8)
    likes = []
    for house in range(1, many):
        ways = ways_of(house, many, roads)
        size = min(len(ways), chance.randint(0, liked))
        # Mostly short ways, since hardly any stand has the rest of a long one.
        near = sorted(ways, key=lambda way: len(way) + 2 * chance.random())[:size + 2]
        likes.append(tuple(chance.sample(near, size)))
    return (many, roads, tuple(likes))


def random_guilds(seed, count, sizes, liked):
    chance = Random(seed)
    return [random_guild(chance, chance.choice(sizes), liked) for _ in range(count)]


def full_guild(chance):
    """A guild of seven houses with all roads that each like six ways, mostly short ones."""
    likes = []
    for house in range(1, 7):
        near = sorted(ways_of(house, 7, ALL_ROADS), key=lambda way: len(way) + 2 * chance.random())[:8]
        likes.append(tuple(chance.sample(near, 6)))
    return (7, ALL_ROADS, tuple(likes))

"""Guilds that several tests ask about."""

from itertools import combinations, permutations

ALONE = (2, (), ((),))
PAIR = (2, ((0, 1),), (((1, 0),),))
# Each house likes the way over the other one best.
TWO_MINDS = (
    3,
    ((0, 1), (0, 2), (1, 2)),
    (((1, 2, 0), (1, 0)), ((2, 1, 0), (2, 0))),
)
ALL_ROADS = tuple(combinations(range(7), 2))
SEVEN = (
    7,
    ALL_ROADS,
    tuple(
        ((house, 0),) + tuple((house, other, 0) for other in range(1, 7) if other != house)
        for house in range(1, 7)
    ),
)
SEVEN_BARE = (7, (), ((),) * 6)
SEVEN_NO_LIKES = (7, ALL_ROADS, ((),) * 6)
LONG_WAYS = (7, ALL_ROADS, ((), (), ((3, 1, 2, 6, 5, 4, 0), (3, 4, 5, 6, 2, 1, 0)), (), (), ()))
SQUARE = (
    4,
    ((0, 1), (0, 3), (1, 2), (2, 3)),
    (
        ((1, 2, 3, 0), (1, 0)),
        ((2, 3, 0), (2, 1, 0)),
        ((3, 0),),
    ),
)
GUILDS = (ALONE, PAIR, TWO_MINDS, SEVEN, SEVEN_BARE, SEVEN_NO_LIKES, LONG_WAYS, SQUARE)


def ways_of(house, many, roads):
    """All ways of a house, found by trying every row of houses."""
    joined = {frozenset(road) for road in roads}
    between = [other for other in range(1, many) if other != house]
    rows = [
        (house,) + middle + (0,)
        for size in range(len(between) + 1)
        for middle in permutations(between, size)
    ]
    return [row for row in rows if all(frozenset(step) in joined for step in zip(row, row[1:]))]

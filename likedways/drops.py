"""The fewest liked ways to be dropped so that there is an order, and rings that show that fewer won't do."""

from likedways.bounds import DROPS
from likedways.errors import NoOrder, TooMany
from likedways.guilds import dropped, is_rising
from likedways.orders import is_liked, is_ring, least_ring, liked_ways


def free_ways(guild, kept):
    """The liked ways that may be dropped, rising."""
    liked = liked_ways(guild)
    if len(liked) > DROPS:
        raise TooMany(len(liked))
    return [way for way in liked if way not in kept]


def choices(ways, size):
    """All lists of so many of the rising ways, each of them rising, the lesser ones first."""
    rows = [[]]
    for place in range(size):
        rows = [[*row, way] for row in rows for way in ways if not row or row[-1] < way]
    return rows


def stand_in(ways, ring):
    """The ways that are a spoke or a whole of the ring."""
    return tuple([way for way in ways if any([way in pair for pair in ring])])


def meets_each(ways, groups):
    """Whether in each group there is one of the ways."""
    for group in groups:
        if not any([way in group for way in ways]):
            return False
    return True


def first_meeting(ways, rings):
    """The first of the smallest lists of the ways of which one stands in each ring; all ways, where these don't do."""
    groups = sorted(set([stand_in(ways, ring) for ring in rings]))
    for size in range(len(ways)):
        for row in choices(ways, size):
            if meets_each(row, groups):
                return row
    return list(ways)


def least_drop(guild, *, kept=()):
    """The fewest ways to be dropped, none of them kept, and rings that no fewer ways meet, as a pair."""
    free = free_ways(guild, kept)
    if least_ring(dropped(guild, free)):
        raise NoOrder("the kept ways have a ring")
    # What leaves an order meets each ring, so the first that meets those found so far is never too many.
    ways = []
    rings = []
    ring = least_ring(guild)
    while ring:
        rings.append(ring)
        ways = first_meeting(free, rings)
        ring = least_ring(dropped(guild, ways))
    return (ways, rings)


def are_dropped(guild, thing, free):
    """Whether it is a rising list of free ways without which there is an order, of anything."""
    if not isinstance(thing, list) or not all([is_liked(guild, way) and way in free for way in thing]):
        return False
    return is_rising(thing) and not least_ring(dropped(guild, thing))


def is_least(guild, ways, rings, *, kept=()):
    """Whether they are fewest ways to be dropped and rings that show it, of any two things."""
    free = free_ways(guild, kept)
    if not are_dropped(guild, ways, free):
        return False
    if not isinstance(rings, list) or not all([is_ring(guild, ring) for ring in rings]):
        return False
    return len(first_meeting(free, rings)) == len(ways)

"""Guilds: what one is, and what is left of it without some roads or ways."""

from likedways.bounds import HOUSES, LIKED


def is_whole(thing):
    """Whether it is a whole number."""
    # Python takes True for 1 and False for 0; here they are no numbers.
    return isinstance(thing, int) and not isinstance(thing, bool)


def is_rising(things):
    """Whether each comes before the next one, of things that compare."""
    return all([one < other for one, other in zip(things, things[1:])])


def are_unlike(things):
    """Whether no two are equal, of numbers or tuples of numbers."""
    return len(set(things)) == len(things)


def is_many(thing):
    """Whether there can be so many houses, of anything."""
    return is_whole(thing) and 2 <= thing <= HOUSES


def is_house(thing, many):
    """Whether it is one of so many houses, of anything."""
    return is_whole(thing) and 0 <= thing < many


def are_houses(thing, many):
    """Whether it is a tuple of houses of so many."""
    return isinstance(thing, tuple) and all([is_house(one, many) for one in thing])


def is_pair(thing, many):
    """Whether it is a pair of houses, as a road is told."""
    return are_houses(thing, many) and len(thing) == 2 and thing[0] < thing[1]


def are_roads(thing, many):
    """Whether it can be the roads of so many houses."""
    # Only pairs of numbers are sure to compare, so that comes ahead of rising.
    return isinstance(thing, tuple) and all([is_pair(one, many) for one in thing]) and is_rising(thing)


def road_between(one, other):
    """The pair of both, as a road is told."""
    return (min(one, other), max(one, other))


def goes_along(way, roads):
    """Whether each house of the way is joined with the next one by one of the roads."""
    return all([road_between(one, other) in roads for one, other in zip(way, way[1:])])


def is_way(thing, house, many, roads):
    """Whether it is a way of the house to the hall."""
    if not are_houses(thing, many):
        return False
    return thing[:1] == (house,) and thing[-1:] == (0,) and are_unlike(thing) and goes_along(thing, roads)


def are_liked(thing, house, many, roads):
    """Whether it can be the liked ways of the house."""
    if not isinstance(thing, tuple) or len(thing) > LIKED:
        return False
    # Only ways are sure to be fit for a set, so that comes ahead of unlike.
    return all([is_way(one, house, many, roads) for one in thing]) and are_unlike(thing)


def are_likes(thing, many, roads):
    """Whether it can be the likes of so many houses with these roads."""
    if not isinstance(thing, tuple) or len(thing) != many - 1:
        return False
    return all([are_liked(liked, house, many, roads) for house, liked in enumerate(thing, start=1)])


def all_ways(house, many, roads):
    """All ways of the house to the hall, the shorter ones first."""
    found = []
    begun = [(house,)]
    while begun:
        longer = [(*row, other) for row in begun for other in range(many) if other not in row]
        joined = [row for row in longer if road_between(row[-2], row[-1]) in roads]
        found = found + [row for row in joined if row[-1] == 0]
        begun = [row for row in joined if row[-1] != 0]
    return found


def is_guild(thing):
    """Whether it is a guild, of anything."""
    if not isinstance(thing, tuple) or len(thing) != 3:
        return False
    many, roads, likes = thing
    return is_many(many) and are_roads(roads, many) and are_likes(likes, many, roads)


def without(guild, roads):
    """The guild without these roads, and without the ways along them."""
    many, held, likes = guild
    gone = [road_between(one, other) for one, other in roads]
    left = tuple([road for road in held if road not in gone])
    # Each liked way goes along roads of the guild, so what goes along the left ones alone stays.
    return (many, left, tuple([tuple([way for way in liked if goes_along(way, left)]) for liked in likes]))


def dropped(guild, ways):
    """The guild whose houses like none of these ways any more."""
    many, roads, likes = guild
    return (many, roads, tuple([tuple([way for way in liked if way not in ways]) for liked in likes]))

"""Nets of roads with lengths and widths, and the likings that come of them."""

from likedways.bounds import LIKED
from likedways.errors import NoRule
from likedways.guilds import all_ways, is_many, is_pair, is_rising, is_whole, road_between


def is_measure(thing):
    """Whether it can be a length or a width, of anything."""
    return is_whole(thing) and 1 <= thing <= 99


def is_net_row(thing, many):
    """Whether it is a tuple (one, other, length, width) over so many houses, of anything."""
    if not isinstance(thing, tuple) or len(thing) != 4:
        return False
    return is_pair(thing[:2], many) and is_measure(thing[2]) and is_measure(thing[3])


def roads_of(net):
    """The pair of each row, in order."""
    return tuple([row[:2] for row in net[1]])


def is_net(thing):
    """Whether it is a net, of anything."""
    if not isinstance(thing, tuple) or len(thing) != 2:
        return False
    many, rows = thing
    if not is_many(many) or not isinstance(rows, tuple):
        return False
    # Rows that rise rise by their pairs already, since no two have the same one.
    return all([is_net_row(row, many) for row in rows]) and is_rising(roads_of(thing))


def worth(net, way):
    """The sum of lengths and the least width along the way."""
    measures = {(one, other): (length, width) for one, other, length, width in net[1]}
    steps = [measures[road_between(one, other)] for one, other in zip(way, way[1:])]
    return (sum([length for length, width in steps]), min([width for length, width in steps]))


def by_short(net, way):
    """The lesser length ahead, then the greater width."""
    length, width = worth(net, way)
    return (length, -width, way)


def by_wide(net, way):
    """The greater width ahead, then the lesser length."""
    length, width = worth(net, way)
    return (-width, length, way)


def by_few(net, way):
    """The fewer houses ahead, then as by short."""
    return (len(way), *by_short(net, way))


RULES = {"short": by_short, "wide": by_wide, "few": by_few}


def guild_of_net(net, *, rule="short", most=LIKED):
    """The guild whose houses like so many of their ways, the first ones by the rule."""
    if rule not in RULES:
        raise NoRule("there is no rule of that name")
    place = RULES[rule]
    many = net[0]
    roads = roads_of(net)
    likes = []
    for house in range(1, many):
        rows = sorted([(place(net, way), way) for way in all_ways(house, many, roads)])
        likes.append(tuple([way for key, way in rows[:most]]))
    return (many, roads, tuple(likes))

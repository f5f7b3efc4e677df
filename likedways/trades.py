"""Trades: who sells to whom, who are peers, and the likings that come of it."""

from likedways.bounds import LIKED
from likedways.guilds import all_ways, are_houses, are_roads, are_unlike, is_many, is_rising, road_between
from likedways.walks import shortest_walk

DOWN = 0
LEVEL = 1
UP = 2


def is_sale(thing, many):
    """Whether it is a pair of two unlike houses, of anything."""
    return are_houses(thing, many) and len(thing) == 2 and thing[0] != thing[1]


def are_sales(thing, many):
    """Whether it can be the sales among so many houses, of anything."""
    # Only pairs of numbers are sure to compare, so that comes ahead of rising.
    return isinstance(thing, tuple) and all([is_sale(one, many) for one in thing]) and is_rising(thing)


def pairs_joined(sales, peers):
    """The two houses of each pair, as a road is told."""
    return [road_between(one, other) for one, other in (*sales, *peers)]


def is_trade(thing):
    """Whether it is a trade, of anything."""
    if not isinstance(thing, tuple) or len(thing) != 3:
        return False
    many, sales, peers = thing
    if not is_many(many) or not are_sales(sales, many) or not are_roads(peers, many):
        return False
    return are_unlike(pairs_joined(sales, peers))


def free_houses(trade, listed):
    """The houses that aren't listed yet, though all that sell to them are, rising."""
    many, sales, peers = trade
    buying = [buyer for seller, buyer in sales if seller not in listed]
    return [house for house in range(many) if house not in listed and house not in buying]


def sellers_first(trade):
    """The first list of houses, each behind all that sell to it; only those that can be listed so."""
    listed = []
    free = free_houses(trade, listed)
    while free:
        # The least one that is free, at each place, makes the first of all lists.
        listed.append(free[0])
        free = free_houses(trade, listed)
    return listed


def round_of(trade):
    """A shortest list of houses, each selling to the next one, the last to the first; [] where there is none."""
    many, sales, peers = trade
    links = {house: [("sells", buyer) for seller, buyer in sales if seller == house] for house in range(many)}
    walks = [shortest_walk(links, house, house) for house in links]
    best = min([walk for walk in walks if walk], key=len, default=[])
    return [house for house, label in best]


def just_or_round(trade):
    """("just", houses), each behind all that sell to it, or ("round", houses), each selling to the next one."""
    houses = round_of(trade)
    return ("round", houses) if houses else ("just", sellers_first(trade))


def step(trade, one, other):
    """Whether the step from one house to the other goes down, up or is level."""
    if (one, other) in trade[1]:
        return DOWN
    return UP if (other, one) in trade[1] else LEVEL


def steps_along(trade, way):
    """The steps of the way, one behind the other."""
    return [step(trade, one, other) for one, other in zip(way, way[1:])]


def is_fit(trade, way):
    """Whether only steps down come behind a level step or one down."""
    steps = steps_along(trade, way)
    # What stands right behind such a step goes down itself, so all that comes later does, too.
    return all([later == DOWN for earlier, later in zip(steps, steps[1:]) if earlier != UP])


def guild_of_trade(trade):
    """The guild whose houses like their fit ways."""
    many, sales, peers = trade
    roads = tuple(sorted(pairs_joined(sales, peers)))
    likes = []
    for house in range(1, many):
        fit = [way for way in all_ways(house, many, roads) if is_fit(trade, way)]
        rows = sorted([(step(trade, way[0], way[1]), len(way), way) for way in fit])
        likes.append(tuple([way for kind, size, way in rows[:LIKED]]))
    return (many, roads, tuple(likes))

"""Orders of all liked ways, which show that nothing can go round, and rings of ways that may."""

from likedways.errors import NoOrder
from likedways.guilds import are_houses, are_unlike
from likedways.walks import shortest_walk


def liked_ways(guild):
    """All liked ways, rising."""
    return sorted([way for liked in guild[2] for way in liked])


def is_liked(guild, thing):
    """Whether it is a liked way, of anything."""
    # (True, 0) is equal to (1, 0), so it is asked whether they are houses, too.
    return are_houses(thing, guild[0]) and any([thing in liked for liked in guild[2]])


def better_ways(guild, way):
    """The ways that the way's house likes better, the best one first."""
    liked = guild[2][way[0] - 1]
    return liked[:liked.index(way)]


def ends_of(way):
    """All ends of the way but (), the longest one first."""
    return [way[at:] for at in range(1, len(way))]


def liked_ends(guild, way):
    """The ends of the way that are liked."""
    return [end for end in ends_of(way) if is_liked(guild, end)]


def ways_ahead(guild, way):
    """The liked ways that come ahead of the way in each order."""
    return [*better_ways(guild, way), *liked_ends(guild, way)]


def order_begun(guild):
    """The first order, or, where there is none, what can be put in order of the liked ways."""
    ahead = {way: ways_ahead(guild, way) for way in liked_ways(guild)}
    left = list(ahead)
    order = []
    while left:
        free = [way for way in left if all([one in order for one in ahead[way]])]
        if not free:
            return order
        # The least one that is free, at each place, makes the first of all orders.
        order.append(free[0])
        left.remove(free[0])
    return order


def least_ring(guild):
    """One of the shortest rings, or [] where there is none."""
    links = {}
    for way in liked_ways(guild):
        links[way] = [(whole, end) for whole in better_ways(guild, way) for end in liked_ends(guild, whole)]
    # A step from a spoke along a better way comes to the next spoke, so a walk back to its beginning is a ring.
    walks = [shortest_walk(links, way, way) for way in links]
    return min([walk for walk in walks if walk], key=len, default=[])


def order_or_ring(guild):
    """("order", order), or ("ring", ring) where there is no order."""
    ring = least_ring(guild)
    return ("ring", ring) if ring else ("order", order_begun(guild))


def first_order(guild):
    """The first of all orders, as lists compare."""
    order = order_begun(guild)
    if len(order) < len(liked_ways(guild)):
        raise NoOrder("the ways have a ring")
    return order


def shortest_ring(guild):
    """How many pairs the shortest ring has, 0 where there is none."""
    return len(least_ring(guild))


def is_order(guild, thing):
    """Whether it is an order of the guild, of anything."""
    if not isinstance(thing, list) or not all([is_liked(guild, way) for way in thing]):
        return False
    if sorted(thing) != liked_ways(guild):
        return False
    return all([one in thing[:at] for at, way in enumerate(thing) for one in ways_ahead(guild, way)])


def is_spoke_and_whole(guild, thing):
    """Whether it is a pair of liked ways of one house, the better one behind the other, of anything."""
    if not isinstance(thing, tuple) or len(thing) != 2 or not all([is_liked(guild, way) for way in thing]):
        return False
    return thing[1] in better_ways(guild, thing[0])


def is_ring(guild, thing):
    """Whether it is a ring of the guild, of anything."""
    if not isinstance(thing, list) or len(thing) < 2 or not all([is_spoke_and_whole(guild, pair) for pair in thing]):
        return False
    spokes = [spoke for spoke, whole in thing]
    following = spokes[1:] + spokes[:1]
    return are_unlike(spokes) and all([end in ends_of(pair[1]) for pair, end in zip(thing, following)])

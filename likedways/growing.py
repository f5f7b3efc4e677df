"""The stand that grows by an order, and the ways that a house passes over in a stand."""

from likedways.orders import first_order
from likedways.stands import can_take, first_stand, with_way


def grown(guild):
    """The stand that grows by an order."""
    stand = first_stand(guild)
    for way in first_order(guild):
        if stand[way[0]] == () and can_take(stand, way):
            stand = with_way(stand, way[0], way)
    return stand


def parting_house(stand, way):
    """The last house on the way that has something else in the stand than what is left of the way there."""
    return [house for at, house in enumerate(way) if stand[house] != way[at:]][-1]


def passed_over(guild, stand, house):
    """The liked ways better than the one that the house has, each with the house at which it parts."""
    liked = guild[2][house - 1]
    better = liked[:liked.index(stand[house])] if stand[house] else liked
    return [(way, parting_house(stand, way)) for way in better]

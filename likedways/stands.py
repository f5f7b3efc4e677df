"""Stands: which way each house has, what a house chooses by one, and which are steady."""

from likedways.guilds import are_houses, is_rising


def houses_of(guild):
    """All houses but the hall, rising."""
    return list(range(1, guild[0]))


def ways_for(guild, house):
    """All that the house may have in a stand."""
    return ((), *guild[2][house - 1]) if house > 0 else ((0,),)


def is_stand(guild, thing):
    """Whether it is a stand of the guild, of anything."""
    if not isinstance(thing, tuple) or len(thing) != guild[0]:
        return False
    # (True, 0) is equal to (1, 0), so it is asked whether they are houses, too.
    return all([are_houses(way, guild[0]) and way in ways_for(guild, house) for house, way in enumerate(thing)])


def is_turn(guild, thing):
    """Whether it is a turn of the guild's houses, of anything."""
    return are_houses(thing, guild[0]) and len(thing) > 0 and thing[0] > 0 and is_rising(thing)


def first_stand(guild):
    """The stand in which no house but the hall has a way."""
    return ((0,), *[() for house in houses_of(guild)])


def with_way(stand, house, way):
    """The stand with this way of the house."""
    return (*stand[:house], way, *stand[house + 1:])


def can_take(stand, way):
    """Whether the rest of the way is just what its next house has."""
    return stand[way[1]] == way[1:]


def choice(guild, stand, house):
    """The first liked way that the house can take, or ()."""
    for way in guild[2][house - 1]:
        if can_take(stand, way):
            return way
    return ()


def made(guild, stand, turn):
    """What the turn makes of the stand."""
    return tuple([choice(guild, stand, house) if house in turn else way for house, way in enumerate(stand)])


def restless(guild, stand):
    """The houses whose choice is another way than they have, rising."""
    return [house for house in houses_of(guild) if choice(guild, stand, house) != stand[house]]


def is_steady(guild, stand):
    """Whether each house but the hall has its choice already."""
    return not restless(guild, stand)


def ends_along(house, way):
    """What each house on the way has where the house has the way in a steady stand."""
    return {house: way, **{way[at]: way[at:] for at in range(1, len(way))}}


def fits(held, ends):
    """Whether no house has to have two ways at once."""
    return all([held.get(house, ends[house]) == ends[house] for house in ends])


def steady_stands(guild):
    """All steady stands, rising."""
    # What some houses have settles what those on their ways have; so most stands are never looked at.
    parts = [{0: (0,)}]
    for house in houses_of(guild):
        choices = [ends_along(house, way) for way in ways_for(guild, house)]
        parts = [{**held, **ends} for held in parts for ends in choices if fits(held, ends)]
    stands = [tuple([held[house] for house in range(guild[0])]) for held in parts]
    return sorted([stand for stand in stands if is_steady(guild, stand)])

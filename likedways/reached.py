"""The stands to which some run leads from the first one."""

from likedways.bounds import STANDS
from likedways.errors import TooMany
from likedways.stands import choice, first_stand, restless, with_way


def moves(guild, stand):
    """Each turn of houses that all have another choice, with what it makes of the stand, as pairs."""
    # Other houses in a turn would keep their way, so these turns make all that any turn makes anew.
    rows = [((), stand)]
    for house in restless(guild, stand):
        way = choice(guild, stand, house)
        rows = rows + [((*turn, house), with_way(behind, house, way)) for turn, behind in rows]
    return rows[1:]


def moves_reached(guild, most):
    """The moves of each stand to which some run leads, those that fewer turns lead to first."""
    first = first_stand(guild)
    seen = {first: True}
    queue = [first]
    found = {}
    while len(found) < len(queue):
        stand = queue[len(found)]
        found[stand] = moves(guild, stand)
        for turn, behind in found[stand]:
            if behind not in seen:
                seen[behind] = True
                queue.append(behind)
        if len(queue) > most:
            raise TooMany(most)
    return found


def reached(guild, *, most=STANDS):
    """All stands to which some run leads from the first one, rising."""
    return sorted(moves_reached(guild, most))

"""How many changes a run can have at most, from each stand, where there is an order."""

from likedways.bounds import STANDS
from likedways.orders import first_order
from likedways.reached import moves_reached
from likedways.stands import first_stand
from likedways.walks import late_first


def counted(guild, most):
    """The moves of each reached stand, and the greatest number of changes from each, as two dicts."""
    # Asked for its refusal, which goes ahead of TooMany; with an order no stand comes again once it is left.
    first_order(guild)
    links = moves_reached(guild, most)
    counts = {}
    for stand in late_first(links, first_stand(guild), {}):
        counts[stand] = max([len(turn) + counts[behind] for turn, behind in links[stand]], default=0)
    return links, counts


def tally(guild, *, most=STANDS):
    """Pairs (stand, changes) of all reached stands, rising."""
    links, counts = counted(guild, most)
    return sorted([(stand, counts[stand]) for stand in counts])


def most_changes(guild, *, most=STANDS):
    """The greatest number of changes that a run from the first stand can have."""
    links, counts = counted(guild, most)
    return counts[first_stand(guild)]


def longest_run(guild, *, most=STANDS):
    """A run from the first stand that has the most changes."""
    links, counts = counted(guild, most)
    stand = first_stand(guild)
    run = []
    while counts[stand] > 0:
        best = [row for row in links[stand] if len(row[0]) + counts[row[1]] == counts[stand]]
        turn, stand = best[0]
        run.append(turn)
    return run

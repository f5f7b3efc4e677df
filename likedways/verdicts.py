"""Runs that are fair and never rest, and calms, which show that there are none."""

from likedways.bounds import STANDS
from likedways.guilds import is_rising, is_whole
from likedways.reached import moves, moves_reached
from likedways.runs import led
from likedways.stands import first_stand, houses_of, is_stand, is_steady, is_turn, restless
from likedways.walks import groups, shortest_walk


def are_turns(guild, thing):
    """Whether it is a list of turns, of anything."""
    return isinstance(thing, list) and all([is_turn(guild, turn) for turn in thing])


def left_out(guild, run):
    """The houses but the hall that are in no turn of the run."""
    return [house for house in houses_of(guild) if not any([house in turn for turn in run])]


def is_endless(guild, lead, around):
    """Whether lead and around tell an endless run, of any two things."""
    if not are_turns(guild, lead) or not are_turns(guild, around) or left_out(guild, around):
        return False
    begin = led(guild, first_stand(guild), lead, last=True)
    return not is_steady(guild, begin) and led(guild, begin, around, last=True) == begin


def is_calm_row(guild, thing):
    """Whether it is a tuple (stand, rank, house), of anything."""
    if not isinstance(thing, tuple) or len(thing) != 3:
        return False
    stand, rank, house = thing
    return is_stand(guild, stand) and is_whole(rank) and rank >= 0 and is_whole(house) and 0 < house < guild[0]


def is_eased(guild, row, ranks):
    """Whether each turn leads to a lesser rank, or to the same one without the row's house."""
    stand, rank, house = row
    # A house that has its choice already could have a turn for itself, which leads nowhere else.
    if house not in restless(guild, stand):
        return False
    # All other turns lead where the restless houses in them alone lead, or keep the stand.
    for turn, behind in moves(guild, stand):
        bound = rank - 1 if house in turn else rank
        if ranks.get(behind, rank + 1) > bound:
            return False
    return True


def is_calm(guild, thing):
    """Whether it is a calm of the guild, of anything."""
    if not isinstance(thing, list) or not all([is_calm_row(guild, row) for row in thing]):
        return False
    ranks = {stand: rank for stand, rank, house in thing}
    houses = {rank: house for stand, rank, house in thing}
    if first_stand(guild) not in ranks or not is_rising([row[0] for row in thing]):
        return False
    if any([houses[rank] != house for stand, rank, house in thing]):
        return False
    return all([is_steady(guild, row[0]) or is_eased(guild, row, ranks) for row in thing])


def steps_within(guild, links, group):
    """Turns that keep to the group: for each stand of it the pairs (turn, what it makes of the stand)."""
    inside = {stand: True for stand in group}
    steps = {}
    for stand in group:
        moving = restless(guild, stand)
        waits = [((house,), stand) for house in houses_of(guild) if house not in moving]
        steps[stand] = waits + [row for row in links[stand] if row[1] in inside]
    return steps


def turns_of(steps):
    """All turns of the steps."""
    return [turn for stand in steps for turn, behind in steps[stand]]


def run_between(links, begin, end):
    """A shortest run from one stand to another one, or without turns to itself."""
    return [] if begin == end else [turn for stand, turn in shortest_walk(links, begin, end)]


def step_with(steps, house):
    """The first step (stand, turn, what it makes of the stand) with the house in its turn."""
    return [(stand, turn, behind) for stand in steps for turn, behind in steps[stand] if house in turn][0]


def run_around(guild, steps, begin):
    """A run along the steps from a stand to itself with each house in some turn."""
    run = []
    at = begin
    for house in houses_of(guild):
        if house in left_out(guild, run):
            stand, turn, behind = step_with(steps, house)
            run = run + run_between(steps, at, stand) + [turn]
            at = behind
    return run + run_between(steps, at, begin)


def endless(guild, links, steps):
    """The endless run that leads to the steps and goes round along them."""
    begin = [stand for stand in links if stand in steps][0]
    return ("endless", run_between(links, first_stand(guild), begin), run_around(guild, steps, begin))


def verdict(guild, *, most=STANDS):
    """("safe", calm), or ("endless", lead, round)."""
    links = moves_reached(guild, most)
    calm = []
    # Turns that leave a group lead to lesser ranks; so each needs a house whose turns all leave it, or it has a round.
    for rank, group in enumerate(groups(links, first_stand(guild))):
        steps = steps_within(guild, links, group)
        helpers = left_out(guild, turns_of(steps))
        if is_steady(guild, group[0]):
            helpers = houses_of(guild)
        if not helpers:
            return endless(guild, links, steps)
        calm.extend([(stand, rank, helpers[0]) for stand in group])
    return ("safe", sorted(calm))


def rests(guild, *, most=STANDS):
    """The steady stands to which some run leads, rising."""
    return sorted([stand for stand in moves_reached(guild, most) if is_steady(guild, stand)])

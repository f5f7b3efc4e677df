"""Runs: where turns lead, one behind the other, and how much they change."""

from likedways.stands import first_stand, houses_of, made


def led(guild, stand, run, *, last=False):
    """The stands behind each turn of the run, or the last one alone."""
    stands = []
    for turn in run:
        stand = made(guild, stand, turn)
        stands.append(stand)
    return stand if last else stands


def changed(ahead, behind):
    """How many houses have another way behind than ahead."""
    return len([house for house, way in enumerate(ahead) if way != behind[house]])


def changes(guild, stand, run):
    """How often a house had another way behind a turn of the run than ahead of it."""
    stands = [stand, *led(guild, stand, run)]
    return sum([changed(ahead, behind) for ahead, behind in zip(stands, stands[1:])])


def by_rounds(guild, *, houses=()):
    """Where rounds of all houses, one behind the other, come to rest, or which stands come again."""
    turns = [(house,) for house in houses or houses_of(guild)]
    stand = first_stand(guild)
    stands = []
    places = {}
    while stand not in places:
        places[stand] = len(stands)
        stands.append(stand)
        stand = led(guild, stand, turns, last=True)
    ahead = places[stand]
    # A house chooses once in a round, so one that leads back to its own beginning changed nothing.
    if ahead == len(stands) - 1:
        return ("rests", ahead, stand)
    return ("round", ahead, stands[ahead:])

"""Answers found by trying everything, straight from the words of the document, to compare with what is told."""

from itertools import chain, combinations, permutations, product


def plain_choice(guild, stand, house):
    free = [way for way in guild[2][house - 1] if stand[way[1]] == tuple(way[1:])]
    return (free + [()])[0]


def plain_made(guild, stand, turn):
    row = list(stand)
    for house in turn:
        row[house] = plain_choice(guild, stand, house)
    return tuple(row)


def plain_led(guild, stand, run):
    stands = [stand]
    for turn in run:
        stands.append(plain_made(guild, stands[-1], turn))
    return stands


def plain_first(guild):
    return tuple((0,) if house == 0 else () for house in range(guild[0]))


def plain_turns(guild):
    houses = range(1, guild[0])
    return list(chain.from_iterable(combinations(houses, size) for size in range(1, guild[0])))


def plain_stands(guild):
    return [((0,),) + ways for ways in product(*[((),) + liked for liked in guild[2]])]


def plain_steady(guild, stand):
    return all(plain_made(guild, stand, (house,)) == stand for house in range(1, guild[0]))


def plain_steady_stands(guild):
    return sorted(stand for stand in plain_stands(guild) if plain_steady(guild, stand))


def plain_round(guild, stand, houses):
    return plain_led(guild, stand, [(house,) for house in houses])[-1]


def plain_by_rounds(guild, houses):
    stands = [plain_first(guild)]
    while True:
        following = plain_round(guild, stands[-1], houses)
        if following == stands[-1]:
            return ("rests", len(stands) - 1, following)
        if following in stands:
            return ("round", stands.index(following), stands[stands.index(following):])
        stands.append(following)


def plain_is_end(way, other):
    return any(other[cut:] == way for cut in range(1, len(other)))


def plain_liked(guild):
    return [way for liked in guild[2] for way in liked]


def plain_is_order(guild, ways):
    """Of a list of tuples."""
    if sorted(ways) != sorted(plain_liked(guild)):
        return False
    for liked in guild[2]:
        if [way for way in ways if way in liked] != list(liked):
            return False
    return not any(plain_is_end(late, early) for early, late in combinations(ways, 2))


def plain_orders(guild):
    return [list(ways) for ways in permutations(plain_liked(guild)) if plain_is_order(guild, list(ways))]


def plain_is_ring(guild, pairs):
    """Of a list of pairs of tuples."""
    if len(pairs) < 2 or len({spoke for spoke, _ in pairs}) < len(pairs):
        return False
    for at, (spoke, whole) in enumerate(pairs):
        following = pairs[(at + 1) % len(pairs)][0]
        if not any(pair == (whole, spoke) for liked in guild[2] for pair in combinations(liked, 2)):
            return False
        if not plain_is_end(following, whole):
            return False
    return True


def plain_rings(guild):
    """All rings, each from each of its pairs on, found by going on from pair to pair."""
    pairs = [(spoke, whole) for liked in guild[2] for whole, spoke in combinations(liked, 2)]
    rings = []
    begun = [[pair] for pair in pairs]
    while begun:
        row = begun.pop()
        if plain_is_ring(guild, row):
            rings.append(row)
        spokes = [spoke for spoke, _ in row]
        begun += [
            row + [pair] for pair in pairs if pair[0] not in spokes and plain_is_end(pair[0], row[-1][1])
        ]
    return rings


def plain_grown(guild, order):
    ways = {0: (0,)}
    for way in order:
        if way[0] not in ways and ways.get(way[1]) == way[1:]:
            ways[way[0]] = way
    return tuple(ways.get(house, ()) for house in range(guild[0]))


def plain_passed_over(guild, stand, house):
    rows = []
    for way in guild[2][house - 1]:
        if way == stand[house]:
            break
        at = len(way) - 1
        while stand[way[at]] == way[at:]:
            at -= 1
        rows.append((way, way[at]))
    return rows


def plain_reached(guild):
    """All reached stands, or None where they are more than a thousand."""
    found = {plain_first(guild)}
    new = set(found)
    while new and len(found) <= 1000:
        new = {plain_made(guild, stand, turn) for stand in new for turn in plain_turns(guild)} - found
        found |= new
    return sorted(found) if len(found) <= 1000 else None


def plain_is_endless(guild, lead, around):
    """Of two lists of turns."""
    begin = plain_led(guild, plain_first(guild), lead)[-1]
    if plain_steady(guild, begin) or plain_led(guild, begin, around)[-1] != begin:
        return False
    return {house for turn in around for house in turn} == set(range(1, guild[0]))


def plain_is_calm(guild, rows):
    """Of a list of tuples (stand, rank, house), each of them good for itself."""
    stands = [stand for stand, _, _ in rows]
    if plain_first(guild) not in stands or stands != sorted(set(stands)):
        return False
    for (_, rank, house), (_, other_rank, other_house) in combinations(rows, 2):
        if rank == other_rank and house != other_house:
            return False
    ranks = {stand: rank for stand, rank, _ in rows}
    for stand, rank, house in rows:
        if plain_steady(guild, stand):
            continue
        for turn in plain_turns(guild):
            to = ranks.get(plain_made(guild, stand, turn))
            if to is None or not (to < rank or to == rank and house not in turn):
                return False
    return True


def plain_can_go_on(guild):
    """Whether some fair run never rests: whether from some reached stand one comes back over all houses."""
    every = frozenset(range(1, guild[0]))
    turns = plain_turns(guild)
    stands = plain_reached(guild)
    steps = {stand: {(plain_made(guild, stand, turn), turn) for turn in turns} for stand in stands}
    for begin in stands:
        if plain_steady(guild, begin):
            continue
        seen = {(begin, frozenset())}
        new = list(seen)
        while new:
            stand, houses = new.pop()
            for behind, turn in steps[stand]:
                state = (behind, houses | set(turn))
                if state not in seen:
                    seen.add(state)
                    new.append(state)
        if (begin, every) in seen:
            return True
    return False


def plain_tally(guild):
    """For each reached stand the most changes, of a guild with an order; by going on until nothing grows."""
    stands = plain_reached(guild)
    turns = plain_turns(guild)
    counts = dict.fromkeys(stands, 0)
    steps = []
    for stand in stands:
        for turn in turns:
            behind = plain_made(guild, stand, turn)
            steps.append((stand, sum(one != other for one, other in zip(stand, behind)), behind))
    grows = True
    while grows:
        grows = False
        for stand, count, behind in steps:
            if count + counts[behind] > counts[stand]:
                counts[stand] = count + counts[behind]
                grows = True
    return sorted(counts.items())

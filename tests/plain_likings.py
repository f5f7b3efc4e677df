"""Answers about dropped ways, nets and trades found by trying everything, straight from the words of the document."""

from itertools import combinations, permutations

from plain_answers import plain_is_end, plain_is_ring, plain_liked


def plain_has_order(guild):
    """Whether all liked ways can be listed: take away again and again what has nothing ahead of it."""
    left = plain_liked(guild)
    pairs = {(better, worse) for liked in guild[2] for better, worse in combinations(liked, 2)}
    while left:
        free = [
            way for way in left
            if not any((one, way) in pairs or plain_is_end(one, way) for one in left)
        ]
        if not free:
            return False
        left = [way for way in left if way not in free]
    return True


def plain_dropped(guild, ways):
    return guild[:2] + (tuple(tuple(way for way in liked if way not in ways) for liked in guild[2]),)


def plain_free(guild, kept):
    return sorted(way for way in plain_liked(guild) if way not in kept)


def plain_least_ways(guild, kept=()):
    """All lists of fewest ways that leave an order, the first one first; [] where none do."""
    free = plain_free(guild, kept)
    for size in range(len(free) + 1):
        good = [list(ways) for ways in combinations(free, size) if plain_has_order(plain_dropped(guild, ways))]
        if good:
            return good
    return []


def plain_meets(ways, rings):
    return all(any(way in pair for way in ways for pair in ring) for ring in rings)


def plain_is_least(guild, ways, rings, kept=()):
    """Of a list of ways and a list of lists of pairs of ways."""
    free = plain_free(guild, kept)
    if ways != sorted(set(ways)) or not set(ways) <= set(free):
        return False
    if not plain_has_order(plain_dropped(guild, ways)) or not all(plain_is_ring(guild, ring) for ring in rings):
        return False
    return not any(plain_meets(fewer, rings) for size in range(len(ways)) for fewer in combinations(free, size))


def plain_worth(net, way):
    lengths, widths = [], []
    for step in zip(way, way[1:]):
        for one, other, length, width in net[1]:
            if {one, other} == set(step):
                lengths.append(length)
                widths.append(width)
    return (sum(lengths), min(widths))


def plain_before(net, rule, way, other):
    """Whether the way goes ahead of the other one by the rule."""
    (length, width), (other_length, other_width) = plain_worth(net, way), plain_worth(net, other)
    if rule == "few" and len(way) != len(other):
        return len(way) < len(other)
    if rule == "wide" and width != other_width:
        return width > other_width
    if length != other_length:
        return length < other_length
    if width != other_width:
        return width > other_width
    return way < other


def plain_sells(trade, seller, buyer):
    return any(pair == (seller, buyer) for pair in trade[1])


def plain_step(trade, one, other):
    if plain_sells(trade, one, other):
        return "down"
    return "up" if plain_sells(trade, other, one) else "level"


def plain_is_fit(trade, way):
    steps = [plain_step(trade, one, other) for one, other in zip(way, way[1:])]
    return not any(ahead in ("level", "down") and behind in ("level", "up") for ahead, behind in combinations(steps, 2))


def plain_just(trade):
    """The first list of all houses, each behind all that sell to it, or None."""
    for houses in permutations(range(trade[0])):
        if not any(plain_sells(trade, late, early) for early, late in combinations(houses, 2)):
            return list(houses)
    return None


def plain_is_round(trade, houses):
    if len(houses) < 2 or len(set(houses)) < len(houses):
        return False
    return all(plain_sells(trade, one, other) for one, other in zip(houses, houses[1:] + houses[:1]))

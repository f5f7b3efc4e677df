"""Things of all kinds that point 2 calls anything, for the functions that tell something of anything."""

HUGE = 10 ** 39
ODD_THINGS = (
    None, True, False, 0, 1, 2, 3, -1, HUGE, -HUGE, "", "0", "guild", "x" * 4000, "a\nb",
    (), [], (0,), [0], (0, 1), [1, 0], ((),), [[]], ((1, 0),), [(0, 1)], (None,), ("",), (True,),
    (0, None), (None, 0), ("0", "1"), ((), (), ()), (0, (1,)), ((0,), 1), ([], ()), (0, 1, 2), (HUGE, HUGE),
)


def deep(many, kind):
    thing = kind()
    for _ in range(many - 1):
        thing = kind([thing])
    return thing


def deep_mixed(many):
    thing = ((0,), ())
    for at in range(many - 2):
        thing = (thing, 1) if at % 2 else [thing, (1, 0)]
    return thing


DEEP_THINGS = tuple(deep(many, kind) for many in (2, 9, 40) for kind in (list, tuple))
MORE_DEEP_THINGS = DEEP_THINGS + (deep_mixed(9), deep_mixed(10), deep_mixed(39), deep_mixed(40))


def with_place(thing, at, other):
    """The list or tuple with another thing in one place."""
    return thing[:at] + type(thing)([other]) + thing[at + 1:]


def loosened(thing):
    """Things that are equal to, or look like, the told one in all but the kinds of what they are made of."""
    if isinstance(thing, (list, tuple)):
        other = list if isinstance(thing, tuple) else tuple
        yield other(thing)
        for at, part in enumerate(thing):
            for odd in loosened(part):
                yield with_place(thing, at, odd)
    elif isinstance(thing, int) and not isinstance(thing, bool):
        yield str(thing)
        yield (thing,)
        yield None
        if thing in (0, 1):
            yield bool(thing)

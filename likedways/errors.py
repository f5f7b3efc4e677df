"""The refusals, each right under WayError, so that none is caught by another one's name."""


class WayError(ValueError):
    """Any refusal."""


class NoGuild(WayError):
    """What was handed in is no guild."""


class NoOrder(WayError):
    """There is a ring, so there is no order."""


class NoRule(WayError):
    """There is no rule of that name."""


class NoLetter(WayError):
    """No letter waits there."""


class NoRoad(WayError):
    """There is no such road."""


class Broken(WayError):
    """The road is broken already."""


class Whole(WayError):
    """The road isn't broken."""


class NoHouse(WayError):
    """There is no such house here."""


class NoLikes(WayError):
    """What was handed in are no likes of that house."""


class NothingLeft(WayError):
    """No deed is left to be taken back, or to be done again."""


class NoDeed(WayError):
    """What was handed in is no deed, or no play."""


class TooDeep(WayError):
    """Too many plays are open already."""


class NoText(WayError):
    """What was handed in is not how a guild is written."""


class NoRow(WayError):
    """What was said is none of the desk's rows."""


class TooMany(WayError):
    """There are more than may be; many is the number that belongs to the refusal."""

    def __init__(self, many):
        super().__init__(f"too many: {many}")
        self.many = many


class Unsettled(WayError):
    """More letters would have to be read than may be; many is that most."""

    def __init__(self, many):
        super().__init__(f"not settled by {many} letters")
        self.many = many


class Stopped(WayError):
    """A play was refused in its row at; why is the name of that refusal's class."""

    def __init__(self, at, why):
        super().__init__(f"stopped at row {at}: {why}")
        self.at = at
        self.why = why

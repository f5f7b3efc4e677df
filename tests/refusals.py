"""What something is refused with."""

from likedways.errors import Stopped, TooMany, Unsettled, WayError


def refused(asked, *told, **named):
    """The name of the refusal, with its values where it has some; what is told where nothing is refused."""
    try:
        return asked(*told, **named)
    except (TooMany, Unsettled) as refusal:
        return type(refusal).__name__, refusal.many
    except Stopped as refusal:
        return "Stopped", refusal.at, refusal.why
    except WayError as refusal:
        return type(refusal).__name__

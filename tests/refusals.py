"""What something is refused with."""

from likedways.errors import TooMany, WayError


def refused(asked, *told, **named):
    """The name of the refusal, of TooMany with its value many; what is told where nothing is refused."""
    try:
        return asked(*told, **named)
    except TooMany as refusal:
        return "TooMany", refusal.many
    except WayError as refusal:
        return type(refusal).__name__

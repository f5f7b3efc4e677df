"""How ways, stands and guilds are written, and how a written guild is read."""

from likedways.bounds import DASH
from likedways.errors import NoText
from likedways.guilds import is_guild

FIGURES = "0123456789"


def way_text(way, *, between=DASH, none="none"):
    """The houses of the way with a text between, or the text for none."""
    return between.join([str(house) for house in way]) if way else none


def ways_text(ways):
    """The ways as they are written, blanks between."""
    return " ".join([way_text(way) for way in ways])


def stand_text(stand):
    """The ways of the stand, blanks between."""
    return ways_text(stand)


def row_text(head, ways):
    """The head of a row, and the ways behind it."""
    return f"{head} {ways_text(ways)}" if ways else f"{head}"


def guild_text(guild):
    """The rows of the guild: how many houses and its roads, then each house with its likes."""
    many, roads, likes = guild
    rows = [row_text(f"{house}:", liked) for house, liked in enumerate(likes, start=1)]
    return "\n".join([row_text(many, roads), *rows])


def read_number(text):
    """The number that the text writes by at most three figures, or None."""
    if not 1 <= len(text) <= 3 or not all([sign in FIGURES for sign in text]):
        return None
    return int(text) if str(int(text)) == text else None


def read_way(text):
    """The numbers that the text writes with dashes between, None in the place of what is no number."""
    return tuple([read_number(part) for part in text.split(DASH)])


def read_guild(text):
    """The guild that the text writes."""
    if not isinstance(text, str):
        raise NoText("that is no text")
    rows = [row.split(" ") for row in text.split("\n")]
    likes = [tuple([read_way(word) for word in row[1:]]) for row in rows[1:]]
    guild = (read_number(rows[0][0]), tuple([read_way(word) for word in rows[0][1:]]), tuple(likes))
    # What stands ahead of the likes isn't read, so only the same text shows that all was as it should be.
    if not is_guild(guild) or guild_text(guild) != text:
        raise NoText("no guild is written so")
    return guild

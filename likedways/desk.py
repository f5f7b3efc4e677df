"""The desk: a post that is told rows of words, and answers with texts."""

from likedways.errors import NoRow
from likedways.guilds import without
from likedways.orders import order_or_ring
from likedways.posts import Post
from likedways.stands import is_steady
from likedways.texts import guild_text, read_guild, read_number, read_way, stand_text, way_text
from likedways.verdicts import verdict

FIRST_GUILD = (3, ((0, 1), (0, 2), (1, 2)), (((1, 2, 0), (1, 0)), ((2, 1, 0), (2, 0))))
# What stands in a row in the place of each line end of a guild.
STROKE = " / "


def whole_guild(post):
    """The guild as it is now without its broken roads."""
    return without(post.guild_now(), post.broken())


def say_read(post, one, other):
    """The reader's way."""
    return way_text(post.read(one, other))


def say_break(post, one, other):
    """The road breaks."""
    post.cut(one, other)
    return "ok"


def say_mend(post, one, other):
    """The road is mended."""
    post.mend(one, other)
    return "ok"


def say_back(post):
    """The last deed is taken back."""
    post.back()
    return "ok"


def say_again(post):
    """The deed is done again."""
    post.again()
    return "ok"


def say_settle(post):
    """How many letters were read."""
    return str(post.settle())


def say_stand(post):
    """The stand."""
    return stand_text(post.stand())


def say_waits(post):
    """How many letters wait."""
    return str(len(post))


def say_letters(post):
    """What waits on each road, each way along it for itself."""
    rows = []
    for sender, reader, ways in post.waiting():
        said = ",".join([way_text(way) for way in ways])
        rows.append(f"{sender}>{reader}:{said}")
    return " ".join(rows) if rows else "none"


def say_show(post):
    """The guild as it is now."""
    return guild_text(post.guild_now()).replace("\n", STROKE)


def say_order(post):
    """Whether there is an order or a ring."""
    return order_or_ring(whole_guild(post))[0]


def say_verdict(post):
    """Whether each fair run rests, or one is endless."""
    return verdict(whole_guild(post))[0]


def say_steady(post):
    """Whether each house but the hall has its choice."""
    return "yes" if is_steady(whole_guild(post), post.stand()) else "no"


ALONE = {
    "back": say_back, "again": say_again, "settle": say_settle, "stand": say_stand, "waits": say_waits,
    "letters": say_letters, "show": say_show, "order": say_order, "verdict": say_verdict, "steady": say_steady,
}
WITH_ENDS = {"read": say_read, "break": say_break, "mend": say_mend}


class Desk:
    """A post, and what it answers to rows."""

    def __init__(self):
        self.post = Post(FIRST_GUILD)

    def say(self, row):
        """The answer to the row."""
        if not isinstance(row, str) or "\n" in row:
            raise NoRow("a row is a text without line ends")
        word, blank, told = row.partition(" ")
        words = told.split(" ") if blank else []
        if word == "guild" and blank:
            return self.say_guild(told)
        if word == "like" and words:
            return self.say_like(words)
        if word in WITH_ENDS and len(words) == 2:
            return self.say_ends(word, words)
        if row in ALONE:
            action = ALONE[row]
            return action(self.post)
        raise NoRow("that is none of the rows")

    def say_guild(self, text):
        """A new post of the guild that the text writes."""
        self.post = Post(read_guild(text.replace(STROKE, "\n")))
        return "ok"

    def say_like(self, words):
        """The house likes these ways from then on."""
        house = read_number(words[0])
        ways = tuple([read_way(word) for word in words[1:]])
        if house is None or any([None in way for way in ways]):
            raise NoRow("that is no house, or these are no ways")
        self.post.like(house, ways)
        return "ok"

    def say_ends(self, word, words):
        """What is done between the two houses."""
        one, other = [read_number(text) for text in words]
        if one is None or other is None:
            raise NoRow("these are no two numbers")
        action = WITH_ENDS[word]
        return action(self.post, one, other)

"""The post: letters read one by one, roads that break and are mended, deeds taken back, and plays of deeds."""

from likedways.bounds import DEEP, MOST
from likedways.errors import (
    Broken, NoDeed, NoGuild, NoHouse, NoLetter, NoLikes, NoRoad, NothingLeft, Stopped, TooDeep, Unsettled, Whole,
)
from likedways.guilds import are_liked, is_guild, is_house, is_whole, road_between
from likedways.letters import first_mail
from likedways.texts import stand_text

# The greatest most with which a play's row may settle.
LONGEST = 2000
ROW_SIZES = {"read": 3, "break": 3, "mend": 3, "like": 3, "settle": 2, "back": 1, "again": 1, "play": 2}


def are_joined(one, other, roads):
    """Whether one of the roads joins both, of any two things."""
    return is_whole(one) and is_whole(other) and road_between(one, other) in roads


def are_told_roads(thing, roads):
    """Whether it is a tuple of pairs that are each the two ends of a road, of anything."""
    if not isinstance(thing, tuple) or not all([isinstance(pair, tuple) and len(pair) == 2 for pair in thing]):
        return False
    return all([are_joined(one, other, roads) for one, other in thing])


def is_row(thing):
    """Whether it has the form of a play's row, of anything."""
    if not isinstance(thing, tuple) or len(thing) == 0 or not isinstance(thing[0], str):
        return False
    if ROW_SIZES.get(thing[0], 0) != len(thing):
        return False
    return thing[0] != "settle" or (is_whole(thing[1]) and 0 <= thing[1] <= LONGEST)


class Post:
    """A guild whose houses tell their ways by letters."""

    def __init__(self, guild, *, broken=()):
        if not is_guild(guild):
            raise NoGuild("a post is made of a guild")
        if not are_told_roads(broken, guild[1]):
            raise NoRoad("only roads of the guild can be broken")
        self.many = guild[0]
        self.roads = guild[1]
        self.mail = first_mail(guild, sorted(set([road_between(one, other) for one, other in broken])))
        self.past = []
        self.undone = []
        self.pages = []
        self.plays = 0

    def read(self, sender, reader):
        """The letter sent first there is read; told is the reader's way then."""
        if not are_joined(sender, reader, self.roads) or not self.mail.places(sender, reader):
            raise NoLetter("no letter waits there")
        mail = self.mail.copied()
        way = mail.read_at(mail.places(sender, reader)[0])
        self.keep_deed(mail)
        return way

    def cut(self, one, other):
        """The road between both breaks."""
        if not are_joined(one, other, self.roads):
            raise NoRoad("there is no such road")
        road = road_between(one, other)
        if road in self.mail.shut:
            raise Broken("the road is broken already")
        mail = self.mail.copied()
        mail.cut(road)
        self.keep_deed(mail)

    def mend(self, one, other):
        """The road between both is mended."""
        if not are_joined(one, other, self.roads):
            raise NoRoad("there is no such road")
        road = road_between(one, other)
        if road not in self.mail.shut:
            raise Whole("the road isn't broken")
        mail = self.mail.copied()
        mail.mend(road)
        self.keep_deed(mail)

    def like(self, house, ways):
        """The house likes these ways from then on."""
        if not is_house(house, self.many) or house == 0:
            raise NoHouse("only houses but the hall like ways")
        if not are_liked(ways, house, self.many, self.roads):
            raise NoLikes("the house can't like these")
        mail = self.mail.copied()
        mail.like(house, ways)
        self.keep_deed(mail)

    def settle(self, *, most=MOST):
        """Letters are read until none waits; told is how many were read."""
        mail = self.mail.copied()
        count = 0
        while mail.sent:
            if count >= most:
                raise Unsettled(most)
            mail.read_at(0)
            count += 1
        self.keep_deed(mail)
        return count

    def keep_deed(self, mail):
        """The mail is what a deed made; what was taken back ahead of it can't be done again."""
        self.past.append(self.mail)
        self.mail = mail
        self.undone = []

    def back(self):
        """The last deed is taken back."""
        if not self.past:
            raise NothingLeft("no deed can be taken back")
        self.undone.append(self.mail)
        self.mail = self.past.pop()

    def again(self):
        """What was taken back last is done again."""
        if not self.undone:
            raise NothingLeft("no deed can be done again")
        self.past.append(self.mail)
        self.mail = self.undone.pop()

    def stand(self):
        """The way of each house."""
        return tuple(self.mail.ways)

    def waiting(self):
        """Tuples (from, to, ways) of all that waits, rising."""
        letters = self.mail.sent
        ends = sorted(set([letter[:2] for letter in letters]))
        return [(*pair, [letter[2] for letter in letters if letter[:2] == pair]) for pair in ends]

    def heard(self, house, other):
        """What the house heard last from the other one."""
        if not is_house(house, self.many) or not is_house(other, self.many):
            raise NoHouse("there is no such house")
        if not are_joined(house, other, self.roads):
            raise NoRoad("no road joins them")
        return self.mail.news[(house, other)]

    def broken(self):
        """The broken roads, rising."""
        return list(self.mail.shut)

    def likes(self):
        """The liked ways of each house but the hall, as they are now."""
        return self.mail.liked

    def guild_now(self):
        """The guild with its broken roads and the ways that are liked now."""
        return (self.many, self.roads, self.mail.liked)

    def __len__(self):
        return len(self.mail.sent)

    def __str__(self):
        return str(stand_text(self.stand()))

    def __eq__(self, other):
        if not isinstance(other, Post):
            return False
        return self.many == other.many and self.roads == other.roads and self.mail.parts() == other.mail.parts()

    def play(self, rows, *, keep=False):
        """The rows are done one behind the other; told is what each of them tells."""
        if not isinstance(rows, (list, tuple)):
            raise NoDeed("a play is a list or a tuple")
        if self.plays >= DEEP:
            raise TooDeep("too many plays are open already")
        # Deeds put other mails in the place of these and never change them, so copies of the lists are enough.
        held = (self.mail, list(self.past), list(self.undone))
        self.plays += 1
        self.pages.append(("in", self.plays))
        try:
            return [self.row_done(at, row, keep) for at, row in enumerate(rows)]
        except Stopped:
            if not keep:
                self.mail, self.past, self.undone = held
            raise
        finally:
            self.pages.append(("out", self.plays))
            self.plays -= 1

    def deed(self, row, keep):
        """What one row of a play does and tells."""
        if not is_row(row):
            raise NoDeed("that is no row of a play")
        match row[0]:
            case "read":
                return self.read(row[1], row[2])
            case "break":
                return self.cut(row[1], row[2])
            case "mend":
                return self.mend(row[1], row[2])
            case "like":
                return self.like(row[1], row[2])
            case "settle":
                return self.settle(most=row[1])
            case "back":
                return self.back()
            case "again":
                return self.again()
            case _:
                return self.play(row[1], keep=keep)

    def row_done(self, at, row, keep):
        """What the row in that place tells; where it is refused the play is stopped there."""
        try:
            return self.deed(row, keep)
        except NoLetter:
            raise Stopped(at, "NoLetter") from None
        except NoRoad:
            raise Stopped(at, "NoRoad") from None
        except Broken:
            raise Stopped(at, "Broken") from None
        except Whole:
            raise Stopped(at, "Whole") from None
        except NoHouse:
            raise Stopped(at, "NoHouse") from None
        except NoLikes:
            raise Stopped(at, "NoLikes") from None
        except Unsettled:
            raise Stopped(at, "Unsettled") from None
        except NothingLeft:
            raise Stopped(at, "NothingLeft") from None
        except NoDeed:
            raise Stopped(at, "NoDeed") from None
        except TooDeep:
            raise Stopped(at, "TooDeep") from None
        except Stopped:
            raise Stopped(at, "Stopped") from None

    def diary(self):
        """Pairs ("in", deep) and ("out", deep) of all plays."""
        return list(self.pages)

    def open_plays(self):
        """How many plays are open."""
        return self.plays

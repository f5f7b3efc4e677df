"""The letters of a post: what each house has, likes and heard, and what waits on the roads to be read."""

from likedways.guilds import road_between
from likedways.stands import first_stand


class Mail:
    """All that deeds change; a post works on a copy, so that what is refused in the middle leaves no trace."""

    def __init__(self, liked, shut, ways, news, sent):
        self.liked = liked
        self.shut = list(shut)
        self.ways = list(ways)
        self.news = {ends: news[ends] for ends in news}
        self.sent = list(sent)

    def copied(self):
        """A mail for itself with all that is in this one."""
        return Mail(self.liked, self.shut, self.ways, self.news, self.sent)

    def parts(self):
        """All that is in it, to be compared."""
        return (self.liked, self.shut, self.ways, self.news, self.sent)

    def send(self, house, other):
        """A letter with the house's way to the other one."""
        self.sent.append((house, other, self.ways[house]))

    def tell(self, house):
        """A letter along each of the house's roads that isn't broken."""
        others = sorted([other for reader, other in self.news if reader == house])
        for other in others:
            if road_between(house, other) not in self.shut:
                self.send(house, other)

    def best(self, house):
        """The first liked way whose rest the house heard from its next house, or ()."""
        for way in self.liked[house - 1]:
            if self.news[(house, way[1])] == way[1:]:
                return way
        return ()

    def choose(self, house):
        """The house takes its best way, and tells it where that is another one; the hall has no other one."""
        way = self.best(house) if house > 0 else self.ways[house]
        if way != self.ways[house]:
            self.ways[house] = way
            self.tell(house)

    def places(self, sender, reader):
        """Where the letters between both stand among all, in the order in which they were sent."""
        return [at for at, letter in enumerate(self.sent) if letter[:2] == (sender, reader)]

    def read_at(self, at):
        """The letter in that place is read; told is the reader's way then."""
        sender, reader, way = self.sent.pop(at)
        self.news[(reader, sender)] = way
        self.choose(reader)
        return self.ways[reader]

    def cut(self, road):
        """The road breaks."""
        one, other = road
        self.shut = sorted([*self.shut, road])
        self.sent = [letter for letter in self.sent if road_between(letter[0], letter[1]) != road]
        self.news[(one, other)] = ()
        self.news[(other, one)] = ()
        self.choose(one)
        self.choose(other)

    def mend(self, road):
        """The road is mended."""
        one, other = road
        self.shut = [held for held in self.shut if held != road]
        self.send(one, other)
        self.send(other, one)

    def like(self, house, ways):
        """The house likes these ways from now on."""
        self.liked = (*self.liked[:house - 1], ways, *self.liked[house:])
        self.choose(house)


def first_mail(guild, shut):
    """The mail of a guild with these roads broken, in which the hall alone has told its way."""
    roads = guild[1]
    ends = [*roads, *[(other, one) for one, other in roads]]
    mail = Mail(guild[2], shut, first_stand(guild), {pair: () for pair in ends}, [])
    mail.tell(0)
    return mail

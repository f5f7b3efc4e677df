"""A post straight from the words of the document: a list of deeds that are all done anew whenever something is asked."""

from plain_answers import plain_first


class Refused(Exception):
    """The name of a refusal, and its values."""

    def __init__(self, name, *values):
        super().__init__(name)
        self.told = (name, *values) if values else name


def whole(thing):
    return type(thing) is int


class PlainState:
    """What a post is behind some deeds; each road has a queue for each way along it, of pairs (number, way)."""

    def __init__(self, guild, broken):
        self.many, self.roads, likes = guild
        self.likes = {house: ways for house, ways in enumerate(likes, start=1)}
        self.gone = {frozenset(pair) for pair in broken}
        self.ways = list(plain_first(guild))
        self.heard = {ends: () for road in self.roads for ends in (road, road[::-1])}
        self.queues = {ends: [] for ends in self.heard}
        self.number = 0
        self.tell(0)

    def send(self, house, other):
        self.queues[house, other].append((self.number, self.ways[house]))
        self.number += 1

    def tell(self, house):
        for other in range(self.many):
            if (house, other) in self.queues and frozenset((house, other)) not in self.gone:
                self.send(house, other)

    def choose(self, house):
        if house == 0:
            return
        free = [way for way in self.likes[house] if self.heard[house, way[1]] == way[1:]]
        way = (free + [()])[0]
        if way != self.ways[house]:
            self.ways[house] = way
            self.tell(house)

    def read(self, sender, reader):
        if not (whole(sender) and whole(reader)) or not self.queues.get((sender, reader)):
            raise Refused("NoLetter")
        self.heard[reader, sender] = self.queues[sender, reader].pop(0)[1]
        self.choose(reader)
        return self.ways[reader]

    def ends(self, one, other):
        if not (whole(one) and whole(other)) or (one, other) not in self.queues:
            raise Refused("NoRoad")
        return sorted((one, other))

    def cut(self, one, other):
        one, other = self.ends(one, other)
        if {one, other} in self.gone:
            raise Refused("Broken")
        self.gone.add(frozenset((one, other)))
        for ends in ((one, other), (other, one)):
            self.queues[ends] = []
            self.heard[ends] = ()
        self.choose(one)
        self.choose(other)

    def mend(self, one, other):
        one, other = self.ends(one, other)
        if {one, other} not in self.gone:
            raise Refused("Whole")
        self.gone.remove(frozenset((one, other)))
        self.send(one, other)
        self.send(other, one)

    def is_way(self, house, way):
        if type(way) is not tuple or not all(whole(one) for one in way) or len(set(way)) < len(way):
            return False
        if way[:1] != (house,) or way[-1:] != (0,):
            return False
        return all(step in self.queues for step in zip(way, way[1:]))

    def like(self, house, ways):
        if not whole(house) or not 0 < house < self.many:
            raise Refused("NoHouse")
        if type(ways) is not tuple or len(ways) > 6 or not all(self.is_way(house, way) for way in ways):
            raise Refused("NoLikes")
        if len(set(ways)) < len(ways):
            raise Refused("NoLikes")
        self.likes[house] = ways
        self.choose(house)

    def settle(self, most):
        for count in range(most + 1):
            firsts = [(queue[0][0], ends) for ends, queue in self.queues.items() if queue]
            if not firsts:
                return count
            if count == most:
                raise Refused("Unsettled", most)
            self.read(*min(firsts)[1])

    def letters(self):
        return sorted((number, ends, way) for ends, queue in self.queues.items() for number, way in queue)

    def shown(self):
        """All that is told of a post, and the letters in the order in which they were sent."""
        waiting = [(*ends, [way for _, way in queue]) for ends, queue in sorted(self.queues.items()) if queue]
        likes = tuple(self.likes[house] for house in range(1, self.many))
        broken = sorted(tuple(sorted(road)) for road in self.gone)
        heard = sorted(self.heard.items())
        return (tuple(self.ways), waiting, heard, broken, likes, len(self.letters()))


class PlainPost:
    """Deeds done and taken back, each a row (name, told ..); plays and their diary."""

    def __init__(self, guild, broken=()):
        self.guild, self.first_broken = guild, broken
        self.done, self.undone, self.diary, self.plays = [], [], [], 0

    def state(self):
        state = PlainState(self.guild, self.first_broken)
        for name, *told in self.done:
            getattr(state, name)(*told)
        return state

    def deed(self, name, *told):
        answer = getattr(self.state(), name)(*told)
        self.done, self.undone = self.done + [(name, *told)], []
        return answer

    def back(self):
        if not self.done:
            raise Refused("NothingLeft")
        self.done, self.undone = self.done[:-1], self.undone + self.done[-1:]

    def again(self):
        if not self.undone:
            raise Refused("NothingLeft")
        self.done, self.undone = self.done + self.undone[-1:], self.undone[:-1]

    def row(self, row, keep):
        shapes = {"read": 3, "break": 3, "mend": 3, "like": 3, "settle": 2, "back": 1, "again": 1, "play": 2}
        if type(row) is not tuple or not row or type(row[0]) is not str or shapes.get(row[0]) != len(row):
            raise Refused("NoDeed")
        if row[0] == "settle" and not (whole(row[1]) and row[1] in range(2001)):
            raise Refused("NoDeed")
        if row[0] in ("back", "again"):
            return getattr(self, row[0])()
        if row[0] == "play":
            return self.play(row[1], keep)
        return self.deed("cut" if row[0] == "break" else row[0], *row[1:])

    def play(self, rows, keep):
        if type(rows) not in (list, tuple):
            raise Refused("NoDeed")
        if self.plays == 6:
            raise Refused("TooDeep")
        held = (self.done, self.undone)
        self.plays += 1
        self.diary.append(("in", self.plays))
        told = []
        try:
            for at, row in enumerate(rows):
                try:
                    told.append(self.row(row, keep))
                except Refused as refusal:
                    if not keep:
                        self.done, self.undone = held
                    name = refusal.told if type(refusal.told) is str else refusal.told[0]
                    raise Refused("Stopped", at, name)
            return told
        finally:
            self.diary.append(("out", self.plays))
            self.plays -= 1


def asked(function, *told, **named):
    try:
        return function(*told, **named)
    except Refused as refusal:
        return refusal.told

"""Point 30: the desk, its first post, its rows, answers and refusals; point 2 as far as it speaks of these."""

import time
import unittest
from random import Random

from guild_samples import (
    ALL_SAMPLES, ALONE, CALMED, MANY, PAIR, SEVEN, SQUARE, STAIRS, THREE_MINDS, THRICE_TWO_MINDS, TWO_MINDS,
    full_guild, random_guilds,
)
from likedways.desk import Desk
from likedways.guilds import without
from likedways.orders import order_or_ring
from likedways.posts import Post
from likedways.stands import is_steady
from likedways.texts import guild_text, stand_text, way_text
from likedways.verdicts import verdict
from odd_things import MORE_DEEP_THINGS, ODD_THINGS
from refusals import refused

FIRST = "3 0-1 0-2 1-2 / 1: 1-2-0 1-0 / 2: 2-1-0 2-0"
PLAIN_ROWS = ("back", "again", "settle", "stand", "waits", "letters", "show", "order", "verdict", "steady")


def row_of(guild):
    return "guild " + guild_text(guild).replace("\n", " / ")


def desk_with(guild):
    desk = Desk()
    desk.say(row_of(guild))
    return desk


def state_of(desk):
    """What asking tells, which changes nothing."""
    return [refused(desk.say, row) for row in ("stand", "waits", "letters", "show", "order", "verdict", "steady")]


class TestRows(unittest.TestCase):
    def assert_said(self, desk, *rows):
        for row, answer in rows:
            self.assertEqual(refused(desk.say, row), answer, row)

    def test_first_post(self):
        self.assert_said(
            Desk(), ("show", FIRST), ("stand", "0 none none"), ("waits", "2"), ("letters", "0>1:0 0>2:0"),
            ("order", "ring"), ("verdict", "endless"), ("steady", "no"), ("back", "NothingLeft"),
            ("again", "NothingLeft"),
        )

    def test_each_desk_has_its_own_post(self):
        one, other = Desk(), Desk()
        one.say("read 0 1")
        self.assertEqual(other.say("stand"), "0 none none")
        self.assertEqual(Desk().say("stand"), "0 none none")

    def test_guild(self):
        for guild in ALL_SAMPLES:
            desk = Desk()
            self.assertEqual(desk.say(row_of(guild)), "ok")
            self.assertEqual(desk.say("show"), row_of(guild)[6:])
            self.assertEqual(desk.say("stand"), str(Post(guild)))
            self.assertEqual(desk.say("waits"), str(len(Post(guild))))

    def test_guild_makes_a_new_post(self):
        desk = Desk()
        desk.say("read 0 1")
        desk.say("break 1 2")
        desk.say("guild " + FIRST)
        self.assert_said(
            desk, ("stand", "0 none none"), ("mend 1 2", "Whole"), ("back", "NothingLeft"), ("again", "NothingLeft"),
        )

    def test_guild_refused(self):
        desk = Desk()
        desk.say("read 0 1")
        before = state_of(desk)
        for text in (
            "", " ", "2", "2 / 1: ", " 2 / 1:", "2 /1:", "2/ 1:", "2 /  1:", "2  / 1:", "2 / 1: /", "2 / 1: / ", " / ", "/",
            "2 / 1: / 2:", "02 / 1:", "2 1:", "2 1-0 / 1: 1-0", "1", "8 / 1:", "2 / / 1:", "2 // 1:", "x", "2 \\ 1:",
            "guild 2 / 1:", "2 / 1", "2 0-1 / 1: 0-1", FIRST + " ", FIRST.replace(" / ", "  /  "), FIRST[:-1],
        ):
            self.assert_said(desk, ("guild " + text, "NoText"))
        self.assert_said(desk, ("guild", "NoRow"), ("guild\n2 / 1:", "NoRow"), ("guild 2\n1:", "NoRow"))
        self.assert_said(desk, ("Guild 2 / 1:", "NoRow"), (" guild 2 / 1:", "NoRow"), ("guild2 / 1:", "NoRow"))
        self.assertEqual(state_of(desk), before)
        self.assert_said(desk, ("back", "ok"), ("stand", "0 none none"))

    def test_read(self):
        desk = Desk()
        self.assert_said(
            desk, ("read 0 1", "1-0"), ("stand", "0 1-0 none"), ("read 0 1", "NoLetter"), ("read 1 0", "0"),
            ("read 0 2", "2-0"), ("read 1 2", "2-1-0"), ("read 5 0", "NoLetter"), ("read 999 0", "NoLetter"),
            ("read 0 0", "NoLetter"), ("stand", "0 1-0 2-1-0"),
        )

    def test_read_of_none(self):
        self.assert_said(desk_with((2, ((0, 1),), ((),))), ("read 0 1", "none"), ("stand", "0 none"))

    def test_break_and_mend(self):
        desk = Desk()
        self.assert_said(
            desk, ("mend 0 1", "Whole"), ("break 1 0", "ok"), ("break 0 1", "Broken"), ("letters", "0>2:0"),
            ("break 0 0", "NoRoad"), ("mend 9 1", "NoRoad"), ("break 999 998", "NoRoad"), ("settle", "4"),
            ("stand", "0 1-2-0 2-0"), ("mend 0 1", "ok"), ("letters", "0>1:0 1>0:1-2-0"), ("mend 1 0", "Whole"),
        )

    def test_like(self):
        desk = Desk()
        self.assert_said(
            desk, ("like 1 1-0", "ok"), ("show", "3 0-1 0-2 1-2 / 1: 1-0 / 2: 2-1-0 2-0"), ("like 2", "ok"),
            ("show", "3 0-1 0-2 1-2 / 1: 1-0 / 2:"), ("like 1 1-0 1-2-0", "ok"), ("settle", "4"),
            ("stand", "0 1-0 none"), ("like 1", "ok"), ("stand", "0 none none"), ("letters", "1>0:none 1>2:none"),
        )

    def test_like_refused(self):
        desk = Desk()
        before = state_of(desk)
        self.assert_said(
            desk, ("like 0", "NoHouse"), ("like 3 3-0", "NoHouse"), ("like 999 5", "NoHouse"), ("like 1 2-0", "NoLikes"),
            ("like 1 1", "NoLikes"), ("like 1 0", "NoLikes"), ("like 1 1-0 1-0", "NoLikes"), ("like 1 1-3-0", "NoLikes"),
            ("like 1 999-0", "NoLikes"), ("like 1 1-2-1-0", "NoLikes"), ("like", "NoRow"), ("like ", "NoRow"),
            ("like 1 ", "NoRow"), ("like 1  1-0", "NoRow"), ("like 1 1-0 ", "NoRow"), ("like  1", "NoRow"),
            ("like 1 none", "NoRow"), ("like 1 -", "NoRow"), ("like 1 1-", "NoRow"), ("like 1 -1", "NoRow"),
            ("like 1 1--0", "NoRow"), ("like 1 01-0", "NoRow"), ("like 1 1-00", "NoRow"), ("like 1 1000-0", "NoRow"),
            ("like 01", "NoRow"), ("like 1000", "NoRow"), ("like -1", "NoRow"), ("like +1", "NoRow"), ("like x", "NoRow"),
            ("like 1-0", "NoRow"), ("like 0 x", "NoRow"), ("like 9 1-", "NoRow"), ("like 1 1,0", "NoRow"),
            ("like 1 2-0 x", "NoRow"), ("like none", "NoRow"), ("like 1 (1,)", "NoRow"),
        )
        self.assertEqual(state_of(desk), before)

    def test_back_and_again(self):
        desk = Desk()
        self.assert_said(
            desk, ("read 0 1", "1-0"), ("read 0 2", "2-0"), ("back", "ok"), ("stand", "0 1-0 none"), ("again", "ok"),
            ("stand", "0 1-0 2-0"), ("again", "NothingLeft"), ("back", "ok"), ("back", "ok"), ("back", "NothingLeft"),
            ("stand", "0 none none"), ("break 0 1", "ok"), ("again", "NothingLeft"),
        )

    def test_settle(self):
        self.assert_said(desk_with(PAIR), ("settle", "2"), ("settle", "0"), ("stand", "0 1-0"))
        self.assert_said(Desk(), ("settle", ("Unsettled", 400)), ("waits", "2"), ("back", "NothingLeft"))

    def test_letters_and_waits(self):
        desk = Desk()
        for row in ("read 0 1", "read 0 2", "read 2 1", "read 1 2"):
            desk.say(row)
        self.assert_said(
            desk, ("letters", "1>0:1-0,1-2-0 1>2:1-2-0 2>0:2-0,2-1-0 2>1:2-1-0"), ("waits", "6"),
        )
        desk = desk_with(ALONE)
        self.assert_said(desk, ("letters", "none"), ("waits", "0"), ("settle", "0"))
        desk = desk_with((3, ((1, 2),), ((), ())))
        self.assert_said(desk, ("break 1 2", "ok"), ("mend 1 2", "ok"), ("letters", "1>2:none 2>1:none"))

    def test_show_has_broken_roads_and_new_likes(self):
        desk = Desk()
        desk.say("break 0 1")
        self.assert_said(desk, ("show", FIRST), ("like 2 2-0", "ok"), ("show", FIRST.replace("2-1-0 2-0", "2-0")))
        self.assertEqual(desk.say("guild " + desk.say("show")), "ok")

    def test_order_and_verdict_without_broken_roads(self):
        desk = Desk()
        self.assert_said(
            desk, ("order", "ring"), ("verdict", "endless"), ("break 1 2", "ok"), ("order", "order"),
            ("verdict", "safe"), ("mend 1 2", "ok"), ("order", "ring"), ("like 1 1-0", "ok"), ("order", "order"),
            ("verdict", "safe"),
        )
        self.assert_said(desk_with(CALMED), ("order", "ring"), ("verdict", "safe"))
        self.assert_said(desk_with(THREE_MINDS), ("order", "ring"), ("verdict", "endless"))

    def test_verdict_refused(self):
        for guild in (MANY, STAIRS):
            self.assert_said(desk_with(guild), ("verdict", ("TooMany", 1000)))
        self.assert_said(desk_with(STAIRS), ("order", "order"))

    def test_steady(self):
        desk = Desk()
        self.assert_said(
            desk, ("steady", "no"), ("break 1 2", "ok"), ("settle", "4"), ("steady", "yes"), ("mend 1 2", "ok"),
            ("steady", "no"), ("break 1 2", "ok"), ("steady", "yes"), ("like 1", "ok"), ("steady", "yes"),
            ("like 1 1-2-0", "ok"), ("steady", "yes"), ("mend 1 2", "ok"), ("steady", "no"),
        )
        self.assert_said(desk_with(ALONE), ("steady", "yes"))

    def test_steady_by_ways_and_not_by_letters(self):
        # House 1 has its road, which is its choice by the stand, while letters still wait.
        desk = desk_with(PAIR)
        self.assert_said(desk, ("read 0 1", "1-0"), ("waits", "1"), ("steady", "yes"))
        # Far from the broken road a house still has the way along it, which isn't its choice any more.
        desk = desk_with((3, ((0, 1), (1, 2)), (((1, 0),), ((2, 1, 0),))))
        self.assert_said(
            desk, ("settle", "4"), ("steady", "yes"), ("break 0 1", "ok"), ("stand", "0 none 2-1-0"), ("steady", "no"),
            ("settle", "2"), ("steady", "yes"),
        )


class TestNoRow(unittest.TestCase):
    def test_blanks(self):
        desk = Desk()
        for row in PLAIN_ROWS + ("read 0 1", "break 0 1", "mend 0 1", "like 1 1-0"):
            for spoilt in (" " + row, row + " ", row + "\n", "\n" + row, row.upper(), row + " x", row[:-1] + "."):
                self.assertEqual(refused(desk.say, spoilt), "NoRow", spoilt)
            if " " in row:
                self.assertEqual(refused(desk.say, row.replace(" ", "  ", 1)), "NoRow")
                self.assertEqual(refused(desk.say, row.replace(" ", "\n", 1)), "NoRow")
                self.assertEqual(refused(desk.say, row.replace(" ", "", 1)), "NoRow")
        self.assertEqual(state_of(desk), state_of(Desk()))

    def test_numbers(self):
        for word in ("read", "break", "mend"):
            for rest in ("", " ", " 0", " 0 ", " 0 1 2", " 00 1", " 0 01", " 0 1000", " 1000 0", " -0 1", " 0 -1",
                         " +0 1", " 0 +1", " 0 x", " x 1", " 0 1.0", " 0-1", " 0 1-0", " 0,1", "  1", " 0 " + "9" * 40,
                         " 0 " + "1" * 3900, " 0 none", " 0 1_0"):
                self.assertEqual(refused(Desk().say, word + rest), "NoRow", word + rest)
            for rest in (" 0 100", " 999 999", " 10 0", " 0 0"):
                self.assertIn(refused(Desk().say, word + rest), ("NoLetter", "NoRoad"))

    def test_words_told_behind_rows_that_stand_alone(self):
        for row in PLAIN_ROWS:
            for rest in (" ", " 1", " 0 1", " " + row):
                self.assertEqual(refused(Desk().say, row + rest), "NoRow")

    def test_other_words(self):
        for row in ("", " ", "play", "play x", "cut 0 1", "waiting", "heard 0 1", "likes", "broken", "diary", "len", "none",
                    "Stand", "stand stand", "/", "show / stand", "0 1", "x" * 4000):
            self.assertEqual(refused(Desk().say, row), "NoRow")

    def test_no_text(self):
        for thing in ODD_THINGS + MORE_DEEP_THINGS + (["stand"], ("stand",), ("read", 0, 1)):
            self.assertEqual(refused(Desk().say, thing), "NoRow")

    def test_line_ends(self):
        for row in ("stand\n", "\nstand", "stand\nstand", "guild \n", "guild 2\n1:", "read 0\n1", "\n"):
            self.assertEqual(refused(Desk().say, row), "NoRow")

    def test_refused_rows_change_nothing(self):
        desk = Desk()
        desk.say("read 0 1")
        desk.say("read 0 2")
        desk.say("back")
        before = state_of(desk)
        for row in ("", "read 0 1", "read 0", "break 1 1", "mend 0 1", "like 0", "like 1 2-0", "guild x", "settle", "x"):
            self.assertNotEqual(refused(desk.say, row), "ok")
        self.assertEqual(state_of(desk), before)
        self.assertEqual(desk.say("again"), "ok")


class TestAgainstThePost(unittest.TestCase):
    def said_and_right(self, chance, desk, post):
        one, other = chance.choice(post.roads or ((0, 0),))[::chance.choice((1, -1))]
        kind = chance.choice(("read",) * 5 + ("break", "mend", "like", "back", "again", "settle"))
        if kind == "read":
            one, other = chance.choice(post.waiting())[:2] if len(post) else (one, other)
            right = refused(post.read, one, other)
            return refused(desk.say, f"read {one} {other}"), way_text(right) if type(right) is tuple else right
        if kind in ("break", "mend"):
            return refused(desk.say, f"{kind} {one} {other}"), refused(
                post.cut if kind == "break" else post.mend, one, other)
        if kind == "like":
            ways = chance.choice(post.likes())[::-1]
            row = " ".join(["like", str(one)] + [way_text(way) for way in ways])
            return refused(desk.say, row), refused(post.like, one, ways)
        right = refused(getattr(post, kind))
        return refused(desk.say, kind), str(right) if type(right) is int else right

    def test_many_rows(self):
        chance = Random(301)
        for guild in random_guilds(302, 25, (2, 3, 4), 3) + [TWO_MINDS, SQUARE]:
            desk, post = desk_with(guild), Post(guild)
            for _ in range(25):
                said, right = self.said_and_right(chance, desk, post)
                self.assertEqual(said, "ok" if right is None else right)
                now = (post.many, post.roads, post.likes())
                left = without(now, post.broken())
                self.assertEqual(desk.say("stand"), stand_text(post.stand()))
                self.assertEqual(desk.say("waits"), str(len(post)))
                self.assertEqual(desk.say("show"), guild_text(now).replace("\n", " / "))
                self.assertEqual(desk.say("order"), order_or_ring(left)[0])
                self.assertEqual(desk.say("steady"), "yes" if is_steady(left, post.stand()) else "no")
                rows = [f"{one}>{other}:" + ",".join(map(way_text, ways)) for one, other, ways in post.waiting()]
                self.assertEqual(desk.say("letters"), " ".join(rows) or "none")
            self.assertEqual(refused(desk.say, "verdict"), verdict(left)[0])


class TestLarge(unittest.TestCase):
    def test_each_row_within_seconds(self):
        chance = Random(303)
        for guild in (MANY, STAIRS, SEVEN, THRICE_TWO_MINDS, full_guild(chance)):
            desk = Desk()
            for row in (row_of(guild),) + PLAIN_ROWS + ("read 0 1", "break 0 1", "mend 0 1", "like 1"):
                began = time.perf_counter()
                self.assertNotEqual(refused(desk.say, row), "NoRow")
                self.assertLess(time.perf_counter() - began, 5)


class TestSameAgain(unittest.TestCase):
    def test_asking_changes_nothing(self):
        for guild in (TWO_MINDS, SQUARE, CALMED):
            desk = desk_with(guild)
            desk.say("read 0 1")
            before = state_of(desk)
            self.assertEqual(state_of(desk), before)
            for answer in before:
                self.assertIs(type(answer), str)
            self.assertEqual(desk.say("back"), "ok")
            self.assertEqual(refused(desk.say, "back"), "NothingLeft")


if __name__ == "__main__":
    unittest.main()

"""Point 27: plays, kept or not, refused in their middle, and the diary; points 2 and 3 as far as they speak of these."""

import time
import unittest
from random import Random

from guild_samples import (
    CALMED, MANY, PAIR, SEVEN, SQUARE, STAIRS, TWO_MINDS, full_guild, random_guilds, ways_of,
)
from likedways.bounds import DEEP
from likedways.errors import Stopped
from likedways.posts import Post
from odd_things import MORE_DEEP_THINGS, ODD_THINGS
from plain_post import PlainPost, asked
from refusals import refused
from shown_posts import shown

THINGS = ODD_THINGS + MORE_DEEP_THINGS
IN_OUT = [("in", 1), ("out", 1)]


def deep_play(many, innermost=()):
    """So many plays within one another; the innermost one has these rows."""
    rows = innermost
    for _ in range(many - 1):
        rows = (("play", rows),)
    return rows


def diary_of(many):
    return [("in", deep) for deep in range(1, many + 1)] + [("out", deep) for deep in range(many, 0, -1)]


class TestRows(unittest.TestCase):
    def test_rows_of_each_kind(self):
        post = Post(TWO_MINDS)
        told = post.play([
            ("read", 0, 1), ("break", 1, 0), ("mend", 0, 1), ("like", 1, ((1, 0),)), ("settle", 400), ("back",),
            ("again",), ("play", [("break", 1, 2)]), ("play", ()),
        ])
        self.assertEqual(told[:4], [(1, 0), None, None, None])
        self.assertIs(type(told[4]), int)
        self.assertEqual(told[5:], [None, None, [None], []])
        self.assertEqual(post.broken(), [(1, 2)])

    def test_as_if_each_was_done_by_itself(self):
        one, other = Post(SQUARE), Post(SQUARE)
        told = one.play((("read", 0, 1), ("break", 0, 3), ("settle", 300), ("like", 2, ()), ("mend", 3, 0), ("settle", 99)))
        right = [other.read(0, 1), other.cut(0, 3), other.settle(most=300), other.like(2, ()), other.mend(3, 0)]
        right.append(other.settle(most=99))
        self.assertEqual(told, right)
        self.assertEqual(one, other)

    def test_lists_and_tuples(self):
        rows = [("read", 0, 1), ("read", 0, 2)]
        for play in (rows, tuple(rows), [("play", rows)], (("play", tuple(rows)),)):
            post = Post(TWO_MINDS)
            post.play(play)
            self.assertEqual(post.stand(), ((0,), (1, 0), (2, 0)))

    def test_no_rows(self):
        for rows in ([], ()):
            post = Post(TWO_MINDS)
            self.assertEqual(post.play(rows), [])
            self.assertIs(type(post.play(rows)), list)
            self.assertEqual(post, Post(TWO_MINDS))
            self.assertEqual(post.diary(), IN_OUT * 2)

    def test_a_play_is_no_deed_but_its_rows_are(self):
        post = Post(TWO_MINDS)
        post.play([("read", 0, 1), ("play", [("read", 0, 2)]), ("break", 1, 2)])
        post.back()
        self.assertEqual(post.broken(), [])
        post.back()
        self.assertEqual(post.stand(), ((0,), (1, 0), ()))
        post.back()
        self.assertEqual(post, Post(TWO_MINDS))
        self.assertEqual(refused(post.back), "NothingLeft")
        for _ in range(3):
            post.again()
        self.assertEqual(post.broken(), [(1, 2)])

    def test_settlings(self):
        for most in (-1, 2001, 10 ** 39, True, False, None, "5", (5,), [5]):
            post = Post(PAIR)
            self.assertEqual(refused(post.play, [("settle", most)]), ("Stopped", 0, "NoDeed"))
            self.assertEqual(len(post), 1)
        self.assertEqual(Post(PAIR).play([("settle", 2000)]), [2])
        self.assertEqual(Post(PAIR).play([("settle", 2)]), [2])
        self.assertEqual(refused(Post(PAIR).play, [("settle", 1)]), ("Stopped", 0, "Unsettled"))
        self.assertEqual(refused(Post(PAIR).play, [("settle", 0)]), ("Stopped", 0, "Unsettled"))
        post = Post(PAIR)
        self.assertEqual(post.play([("settle", 9), ("settle", 0)]), [2, 0])

    def test_no_rows_at_all(self):
        rows = (
            ("read",), ("read", 0), ("read", 0, 1, 2), ("break", 0), ("mend",), ("like", 1), ("like", 1, (), ()),
            ("settle",), ("settle", 5, 5), ("back", 1), ("again", None), ("play",), ("play", [], []), ("cut", 0, 1),
            ("Read", 0, 1), ("read ", 0, 1), ("", 0, 1), (None, 0, 1), (["read"], 0, 1), (("read",), 0, 1), (0, 1),
            ["read", 0, 1], ["back"], "read", "back", ("stand",), ("open_plays",), ("diary",), (True,), (), [],
        )
        for row in rows + THINGS:
            post = Post(TWO_MINDS)
            self.assertEqual(refused(post.play, [row]), ("Stopped", 0, "NoDeed"), row)
            self.assertEqual(refused(post.play, [("read", 0, 1), row]), ("Stopped", 1, "NoDeed"), row)
            self.assertEqual(post, Post(TWO_MINDS))

    def test_anything_within_rows_is_refused_by_the_deeds(self):
        for thing in THINGS:
            post = Post(TWO_MINDS)
            whole = type(thing) is int
            if not (whole and thing in (1, 2)):
                self.assertEqual(refused(post.play, [("read", 0, thing)]), ("Stopped", 0, "NoLetter"))
                self.assertEqual(refused(post.play, [("break", thing, 0)]), ("Stopped", 0, "NoRoad"))
                self.assertEqual(refused(post.play, [("mend", 0, thing)]), ("Stopped", 0, "NoRoad"))
                self.assertEqual(refused(post.play, [("like", thing, thing)]), ("Stopped", 0, "NoHouse"))
            if thing not in ((), ((1, 0),)) or type(thing) is not tuple:
                self.assertEqual(refused(post.play, [("like", 1, thing)]), ("Stopped", 0, "NoLikes"))
            if type(thing) not in (list, tuple):
                self.assertEqual(refused(post.play, [("play", thing)]), ("Stopped", 0, "NoDeed"))
            elif thing:
                self.assertEqual(refused(post.play, [("play", thing)]), ("Stopped", 0, "Stopped"))

    def test_by_name_alone(self):
        with self.assertRaises(TypeError):
            Post(PAIR).play([], True)


class TestStopped(unittest.TestCase):
    def test_why(self):
        cases = (
            (("read", 1, 0), "NoLetter"), (("break", 0, 0), "NoRoad"), (("mend", 5, 0), "NoRoad"),
            (("break", 1, 2), "Broken"), (("mend", 0, 1), "Whole"), (("like", 0, ()), "NoHouse"),
            (("like", 1, ((2, 0),)), "NoLikes"), (("settle", 0), "Unsettled"), (("back",), "NothingLeft"),
            (("again",), "NothingLeft"), (("other",), "NoDeed"), (("play", 5), "NoDeed"),
            (("play", [("again",)]), "Stopped"),
        )
        for row, why in cases:
            for keep in (True, False):
                post = Post(TWO_MINDS, broken=((1, 2),))
                with self.assertRaises(Stopped) as caught:
                    post.play([row], keep=keep)
                self.assertEqual((caught.exception.at, caught.exception.why), (0, why))
                self.assertIs(type(caught.exception.why), str)
                self.assertEqual(post, Post(TWO_MINDS, broken=((1, 2),)))
                self.assertEqual(post.open_plays(), 0)

    def test_at_the_first_a_middle_and_the_last_place(self):
        good = [("read", 0, 1), ("read", 0, 2), ("break", 1, 2)]
        for at in range(4):
            rows = good[:at] + [("read", 0, 0)] + good[at:]
            post = Post(TWO_MINDS)
            self.assertEqual(refused(post.play, rows), ("Stopped", at, "NoLetter"))
            self.assertEqual(post, Post(TWO_MINDS))
            self.assertEqual(refused(post.back), "NothingLeft")
            kept, right = Post(TWO_MINDS), Post(TWO_MINDS)
            self.assertEqual(refused(kept.play, rows, keep=True), ("Stopped", at, "NoLetter"))
            right.play(good[:at])
            self.assertEqual(kept, right)
            for _ in range(at):
                kept.back()
            self.assertEqual(refused(kept.back), "NothingLeft")
            for one in (post, kept):
                self.assertEqual((one.diary(), one.open_plays()), (IN_OUT, 0))

    def test_nothing_behind_it_is_done(self):
        post = Post(TWO_MINDS)
        refused(post.play, [("mend", 0, 1), ("read", 0, 1)], keep=True)
        self.assertEqual(post, Post(TWO_MINDS))

    def test_within_a_play_within(self):
        inner = [("read", 0, 2), ("mend", 0, 1), ("break", 0, 1)]
        rows = [("read", 0, 1), ("play", [("play", inner)]), ("break", 0, 2)]
        post = Post(TWO_MINDS)
        self.assertEqual(refused(post.play, rows), ("Stopped", 1, "Stopped"))
        self.assertEqual(post, Post(TWO_MINDS))
        self.assertEqual(post.diary(), diary_of(3))
        self.assertEqual(refused(post.play, rows, keep=True), ("Stopped", 1, "Stopped"))
        self.assertEqual(post.stand(), ((0,), (1, 0), (2, 0)))
        self.assertEqual(post.broken(), [])
        self.assertEqual(post.diary(), diary_of(3) * 2)
        self.assertEqual(post.open_plays(), 0)
        post.back()
        post.back()
        self.assertEqual(post, Post(TWO_MINDS))

    def test_a_play_within_that_went_well_goes_with_the_one_round_it(self):
        rows = [("play", [("read", 0, 1)]), ("read", 0, 1)]
        post = Post(TWO_MINDS)
        self.assertEqual(refused(post.play, rows), ("Stopped", 1, "NoLetter"))
        self.assertEqual(post, Post(TWO_MINDS))
        self.assertEqual(refused(post.play, rows, keep=True), ("Stopped", 1, "NoLetter"))
        self.assertEqual(post.stand()[1], (1, 0))

    def test_the_post_is_open_again(self):
        post = Post(TWO_MINDS)
        for _ in range(10):
            refused(post.play, deep_play(6, [("read", 9, 9)]))
            self.assertEqual(post.open_plays(), 0)
        self.assertEqual(post.play([("read", 0, 1)]), [(1, 0)])


class TestBackAndAgain(unittest.TestCase):
    def started(self):
        """Two deeds done, and one taken back."""
        post = Post(TWO_MINDS)
        post.read(0, 1)
        post.read(0, 2)
        post.cut(1, 2)
        post.back()
        return post

    def as_started(self, post):
        """Whether the same can be taken back and done again as at first."""
        self.assertEqual(post, self.started())
        post.again()
        self.assertEqual(post.broken(), [(1, 2)])
        self.assertEqual(refused(post.again), "NothingLeft")
        post.back()
        post.back()
        post.back()
        self.assertEqual(post, Post(TWO_MINDS))
        self.assertEqual(refused(post.back), "NothingLeft")

    def test_back_ahead_of_the_plays_own_deeds(self):
        bad = ("read", 9, 9)
        for rows in (
            [bad], [("back",), bad], [("back",), ("back",), bad], [("again",), bad], [("back",), ("again",), bad],
            [("back",), ("break", 0, 1), bad], [("break", 0, 1), ("back",), bad], [("break", 0, 1), bad],
            [("break", 0, 1), ("back",), ("back",), ("back",), bad], [("again",), ("mend", 1, 2), bad],
            [("play", [("back",), ("settle", 0)])], [("back",), ("play", [("back",), ("like", 1, ())]), bad],
        ):
            post = self.started()
            self.assertEqual(refused(post.play, rows)[0], "Stopped")
            self.as_started(post)

    def test_kept(self):
        post = self.started()
        self.assertEqual(refused(post.play, [("back",), ("read", 9, 9)], keep=True), ("Stopped", 1, "NoLetter"))
        self.assertEqual(post.stand(), ((0,), (1, 0), ()))
        post.again()
        self.as_started(post)
        post = self.started()
        refused(post.play, [("back",), ("break", 0, 2), ("again",)], keep=True)
        self.assertEqual(post.broken(), [(0, 2)])
        self.assertEqual(refused(post.again), "NothingLeft")
        post = self.started()
        self.assertEqual(refused(post.play, [("read", 9, 9)], keep=True), ("Stopped", 0, "NoLetter"))
        self.as_started(post)

    def test_in_plays_that_go_well(self):
        post = self.started()
        self.assertEqual(post.play([("again",), ("back",), ("back",), ("again",)]), [None] * 4)
        self.as_started(post)
        post = self.started()
        post.play([("break", 0, 1)])
        self.assertEqual(refused(post.again), "NothingLeft")

    def test_nothing_left_in_a_play(self):
        post = Post(TWO_MINDS)
        rows = [("read", 0, 1), ("back",), ("back",)]
        self.assertEqual(refused(post.play, rows), ("Stopped", 2, "NothingLeft"))
        self.assertEqual(refused(post.again), "NothingLeft")
        self.assertEqual(refused(post.play, rows, keep=True), ("Stopped", 2, "NothingLeft"))
        post.again()
        self.assertEqual(post.stand()[1], (1, 0))

    def test_nothing_takes_the_diary_back(self):
        post = Post(TWO_MINDS)
        post.play([("read", 0, 1)])
        post.back()
        self.assertEqual(post.diary(), IN_OUT)
        refused(post.play, [("back",)])
        self.assertEqual(post.diary(), IN_OUT * 2)
        post.again()
        self.assertEqual(post.diary(), IN_OUT * 2)


class TestDeep(unittest.TestCase):
    def test_six_and_seven(self):
        self.assertEqual(DEEP, 6)
        for deep in range(1, 7):
            post = Post(TWO_MINDS)
            self.assertEqual(post.play(deep_play(deep, [("read", 0, 1)]))[0] != [], True)
            self.assertEqual(post.stand()[1], (1, 0))
            self.assertEqual(post.diary(), diary_of(deep))
        post = Post(TWO_MINDS)
        self.assertEqual(refused(post.play, deep_play(7, [("read", 0, 1)])), ("Stopped", 0, "Stopped"))
        self.assertEqual(post.diary(), diary_of(6))
        self.assertEqual(post.stand()[1], ())

    def test_too_deep_is_told_to_the_sixth_one(self):
        # The sixth play has one row that goes well; the play in its second row would be the seventh.
        post = Post(TWO_MINDS)
        rows = deep_play(6, [("read", 0, 1), ("play", [])])
        self.assertEqual(refused(post.play, rows, keep=True), ("Stopped", 0, "Stopped"))
        self.assertEqual(post.stand()[1], (1, 0))
        self.assertEqual(post.diary(), diary_of(6))

    def test_too_deep_itself(self):
        post = Post(TWO_MINDS)
        post.plays = DEEP
        self.assertEqual(refused(post.play, []), "TooDeep")
        self.assertEqual(refused(post.play, 5), "NoDeed")
        self.assertEqual(refused(post.play, [("read", 9, 9)]), "TooDeep")
        self.assertEqual((post.diary(), post.open_plays()), ([], DEEP))
        post.plays = DEEP - 1
        self.assertEqual(refused(post.play, [("play", [])]), ("Stopped", 0, "TooDeep"))
        self.assertEqual(refused(post.play, [("play", 5)]), ("Stopped", 0, "NoDeed"))
        self.assertEqual(post.open_plays(), DEEP - 1)

    def test_one_behind_the_other_is_not_deep(self):
        post = Post(TWO_MINDS)
        self.assertEqual(post.play([("play", [])] * 20), [[]] * 20)
        self.assertEqual(post.diary(), [("in", 1)] + [("in", 2), ("out", 2)] * 20 + [("out", 1)])

    def test_no_list_or_tuple(self):
        for thing in THINGS:
            post = Post(TWO_MINDS)
            if type(thing) not in (list, tuple):
                for keep in (True, False):
                    self.assertEqual(refused(post.play, thing, keep=keep), "NoDeed")
                self.assertEqual((post.diary(), post.open_plays()), ([], 0))
            elif thing:
                self.assertEqual(refused(post.play, thing), ("Stopped", 0, "NoDeed"))
                self.assertEqual((post.diary(), post.open_plays()), (IN_OUT, 0))

    def test_forty_within_one_another(self):
        for keep in (True, False):
            post = Post(TWO_MINDS)
            self.assertEqual(refused(post.play, deep_play(20), keep=keep), ("Stopped", 0, "Stopped"))
            self.assertEqual((post.diary(), post.open_plays()), (diary_of(6), 0))

    def test_diary_at_first(self):
        post = Post(PAIR)
        self.assertEqual((post.diary(), post.open_plays()), ([], 0))
        post.settle()
        self.assertEqual((post.diary(), post.open_plays()), ([], 0))
        self.assertIs(type(post.open_plays()), int)


class TestRandomPlays(unittest.TestCase):
    """Against the plain post."""

    def random_rows(self, chance, guild, deep):
        rows = []
        for _ in range(chance.randint(0, 5)):
            one, other = chance.choice(guild[1] or ((0, 1),))[::chance.choice((1, -1))]
            kind = chance.choice(("read",) * 3 + ("break", "mend", "like", "settle", "back", "again", "odd", "play"))
            if kind in ("read", "break", "mend"):
                rows.append((kind, one, other) if chance.random() < 0.7 else (kind, 0, chance.randint(1, 2)))
            elif kind == "like":
                ways = ways_of(max(one, other), guild[0], guild[1])
                liked = ways[:chance.randint(0, 4)] + ways[:1] * chance.choice((0, 0, 1))
                rows.append((kind, max(one, other), tuple(liked)))
            elif kind == "settle":
                rows.append((kind, chance.choice((0, 3, 50, 2000 if deep > 4 else 60, 2001, True))))
            elif kind == "odd":
                rows.append(chance.choice(THINGS + (("read", 0), ("play", 5))) if chance.random() < 0.3 else ("back",))
            elif kind == "play":
                rows.append((kind, self.random_rows(chance, guild, deep + 1) if deep < 9 else []))
            else:
                rows.append((kind,))
        return chance.choice((list, tuple))(rows)

    def test_many_plays(self):
        chance = Random(271)
        whys = set()
        for guild in random_guilds(272, 40, (2, 3, 4), 3) + [TWO_MINDS, SQUARE, CALMED]:
            post, plain = Post(guild), PlainPost(guild)
            for _ in range(30):
                rows = self.random_rows(chance, guild, 1)
                text = repr(rows)
                keep = chance.choice((True, False))
                told = refused(post.play, rows, keep=keep)
                self.assertEqual(repr(told), repr(asked(plain.play, rows, keep)))
                self.assertEqual(repr(rows), text)
                self.assertEqual(repr(shown(post)), repr(plain.state().shown()))
                self.assertEqual((post.diary(), post.open_plays()), (plain.diary, 0))
                if chance.random() < 0.5:
                    kind = chance.choice(("back", "again"))
                    self.assertEqual(refused(getattr(post, kind)), asked(getattr(plain, kind)))
                if type(told) is tuple:
                    whys.add(told[2])
        self.assertLessEqual(
            {"NoLetter", "NoRoad", "Broken", "Whole", "NoLikes", "Unsettled", "NothingLeft", "NoDeed", "Stopped"}, whys,
        )


class TestLarge(unittest.TestCase):
    def two_hundred_rows(self, guild):
        rows = []
        for at in range(40):
            house = at * 5 + 3
            road = guild[1][house * 7 % len(guild[1])]
            liked = guild[2][house % (guild[0] - 1)]
            rows += [
                ("break", *road), ("settle", 2000), ("mend", *road), ("settle", 2000),
                ("like", house % (guild[0] - 1) + 1, liked[::-1] if at % 2 else liked[:3]),
            ]
        return rows

    def test_two_hundred_rows_within_seconds(self):
        for guild in (STAIRS, SEVEN):
            rows = self.two_hundred_rows(guild)
            self.assertEqual(len(rows), 200)
            post = Post(guild)
            began = time.perf_counter()
            self.assertEqual(len(post.play(rows)), 200)
            for _ in range(200):
                post.back()
            self.assertEqual(post, Post(guild))
            self.assertEqual(refused(post.play, rows + [("back",)] * 201), ("Stopped", 400, "NothingLeft"))
            self.assertEqual(post, Post(guild))
            for _ in range(200):
                post.again()
            self.assertLess(time.perf_counter() - began, 10)

    def test_letters_that_never_end(self):
        chance = Random(273)
        for guild in (MANY, full_guild(chance), TWO_MINDS):
            post = Post(guild)
            began = time.perf_counter()
            for at in range(200):
                rows = [("settle", 2000)] if at % 50 == 0 else [("read", *post.waiting()[-1][:2])] if len(post) else []
                told = refused(post.play, rows, keep=True)
                self.assertTrue(type(told) is list or told == ("Stopped", 0, "Unsettled"))
            self.assertEqual(len(post.diary()), 400)
            self.assertLess(time.perf_counter() - began, 10)


class TestNothingChanged(unittest.TestCase):
    def test_lists_changed_behind(self):
        inner = [("break", 1, 2)]
        rows = [("read", 0, 1), ("play", inner)]
        post, right = Post(TWO_MINDS), Post(TWO_MINDS)
        told = post.play(rows)
        right.read(0, 1)
        right.cut(1, 2)
        self.assertEqual(rows, [("read", 0, 1), ("play", [("break", 1, 2)])])
        inner.clear()
        rows.clear()
        rows.append(("break", 0, 1))
        told[1].append("more")
        told.clear()
        self.assertEqual(post, right)
        post.back()
        post.back()
        post.again()
        post.again()
        self.assertEqual(post, right)
        self.assertEqual(post.diary(), [("in", 1), ("in", 2), ("out", 2), ("out", 1)])

    def test_diary_is_the_askers_own(self):
        post = Post(TWO_MINDS)
        post.play([])
        diary = post.diary()
        diary.append("more")
        self.assertEqual(post.diary(), IN_OUT)
        post.play([])
        self.assertEqual(diary, IN_OUT + ["more"])


if __name__ == "__main__":
    unittest.main()

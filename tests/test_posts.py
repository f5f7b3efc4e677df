"""Points 22 to 26: the post, its letters, roads, likes, deeds taken back, what is told of it; points 2 and 3 on these."""

import time
import unittest
from itertools import product
from random import Random
from unittest import mock

from guild_samples import (
    ALL_SAMPLES, ALONE, CALMED, CHAIN, MANY, NO_LIKES, PAIR, SEVEN, SEVEN_BARE, SQUARE, STAIRS, THREE_MINDS, TWO_MINDS,
    full_guild, random_guild, random_guilds, ways_of,
)
from likedways.bounds import MOST
from likedways.growing import grown
from likedways.guilds import without
from likedways.posts import Post
from likedways.stands import is_steady
from odd_things import MORE_DEEP_THINGS, ODD_THINGS, loosened
from plain_likings import plain_has_order
from plain_post import PlainPost, asked
from refusals import refused
from shown_posts import shown

THINGS = ODD_THINGS + MORE_DEEP_THINGS
ROADS = TWO_MINDS[1]
# House 2 alone has a road to the hall; house 1 goes over it.
BEHIND = (3, ((0, 2), (1, 2)), (((1, 2, 0),), ((2, 0),)))


def read_all(post, chance):
    """All letters are read, in whatever order chance has it."""
    for _ in range(5000):
        if len(post) == 0:
            return
        sender, reader, _ = chance.choice(post.waiting())
        post.read(sender, reader)
    raise AssertionError("it never rests")


class TestMade(unittest.TestCase):
    def test_what_each_house_has_and_heard_at_first(self):
        post = Post(TWO_MINDS)
        self.assertEqual(post.stand(), ((0,), (), ()))
        for house, other in product(range(3), repeat=2):
            if house != other:
                self.assertEqual(post.heard(house, other), ())
        self.assertEqual(post.broken(), [])
        self.assertEqual(post.likes(), TWO_MINDS[2])

    def test_which_letters_wait_at_first(self):
        self.assertEqual(Post(TWO_MINDS).waiting(), [(0, 1, [(0,)]), (0, 2, [(0,)])])
        self.assertEqual(Post(BEHIND).waiting(), [(0, 2, [(0,)])])
        self.assertEqual(Post(ALONE).waiting(), [])
        self.assertEqual(Post(SEVEN).waiting(), [(0, house, [(0,)]) for house in range(1, 7)])
        self.assertEqual(len(Post(SEVEN)), 6)
        self.assertEqual(len(Post(SEVEN_BARE)), 0)

    def test_first_letters_go_to_the_lesser_house_first(self):
        # Only the order of sending says which of both reads first.
        guild = (3, ROADS, (((1, 2, 0), (1, 0)), ((2, 0),)))
        one, other = Post(guild), Post(guild)
        one.settle()
        for sender, reader in ((0, 1), (0, 2), (1, 0), (1, 2), (2, 0), (2, 1), (1, 0), (1, 2)):
            other.read(sender, reader)
        self.assertEqual(shown(one), shown(other))

    def test_broken_roads(self):
        for pairs in (((0, 1),), ((1, 0),), ((0, 1), (1, 0)), ((1, 0), (1, 0), (0, 1))):
            post = Post(TWO_MINDS, broken=pairs)
            self.assertEqual(post.broken(), [(0, 1)])
            self.assertEqual(post.waiting(), [(0, 2, [(0,)])])
            self.assertEqual(post.likes(), TWO_MINDS[2])
            self.assertEqual(post, Post(TWO_MINDS, broken=((0, 1),)))
        post = Post(TWO_MINDS, broken=((2, 1), (1, 0), (2, 0)))
        self.assertEqual(post.broken(), [(0, 1), (0, 2), (1, 2)])
        self.assertEqual(len(post), 0)

    def test_broken_roads_are_mended_later(self):
        post = Post(PAIR, broken=((1, 0),))
        self.assertEqual(post.stand(), ((0,), ()))
        post.mend(0, 1)
        self.assertEqual(post.waiting(), [(0, 1, [(0,)]), (1, 0, [()])])
        post.settle()
        self.assertEqual(post.stand(), ((0,), (1, 0)))

    def test_no_guild(self):
        for thing in THINGS + tuple(loosened(TWO_MINDS)) + (TWO_MINDS + ((),), "2\n1:"):
            self.assertEqual(refused(Post, thing), "NoGuild")
            self.assertEqual(refused(Post, thing, broken=((5, 6),)), "NoGuild")

    def test_no_road(self):
        for thing in THINGS:
            if thing == () and type(thing) is tuple:
                self.assertEqual(Post(TWO_MINDS, broken=thing), Post(TWO_MINDS))
            elif thing == ((1, 0),):
                self.assertEqual(Post(TWO_MINDS, broken=thing).broken(), [(0, 1)])
            else:
                self.assertEqual(refused(Post, TWO_MINDS, broken=thing), "NoRoad", thing)
            if thing != (0, 1) or type(thing) is not tuple:
                self.assertEqual(refused(Post, TWO_MINDS, broken=(thing,)) == "NoRoad", thing not in ((1, 0),), thing)
                self.assertEqual(refused(Post, TWO_MINDS, broken=((0, 2), thing)), "NoRoad", thing)
        for odd in loosened(((0, 1), (2, 1))):
            self.assertEqual(refused(Post, TWO_MINDS, broken=odd), "NoRoad", odd)
        for pair in ((0, 0), (1, 1), (0, 3), (3, 0), (-1, 0), (0, 1, 2), (0,), ()):
            self.assertEqual(refused(Post, TWO_MINDS, broken=(pair,)), "NoRoad", pair)
        self.assertEqual(refused(Post, BEHIND, broken=((0, 1),)), "NoRoad")
        self.assertEqual(refused(Post, ALONE, broken=((0, 1),)), "NoRoad")

    def test_by_name_alone(self):
        with self.assertRaises(TypeError):
            Post(TWO_MINDS, ())


class TestRead(unittest.TestCase):
    def test_a_way_is_taken_and_told(self):
        post = Post(TWO_MINDS)
        self.assertEqual(post.read(0, 1), (1, 0))
        self.assertEqual(post.stand(), ((0,), (1, 0), ()))
        self.assertEqual(post.heard(1, 0), (0,))
        self.assertEqual(post.heard(0, 1), ())
        self.assertEqual(post.waiting(), [(0, 2, [(0,)]), (1, 0, [(1, 0)]), (1, 2, [(1, 0)])])

    def test_a_better_one_is_taken_later(self):
        post = Post(TWO_MINDS)
        post.read(0, 1)
        self.assertEqual(post.read(0, 2), (2, 0))
        self.assertEqual(post.read(2, 1), (1, 2, 0))
        self.assertEqual(
            post.waiting(),
            [(1, 0, [(1, 0), (1, 2, 0)]), (1, 2, [(1, 0), (1, 2, 0)]), (2, 0, [(2, 0)])],
        )

    def test_a_way_is_lost(self):
        post = Post(TWO_MINDS)
        for sender, reader in ((0, 1), (0, 2), (1, 2)):
            post.read(sender, reader)
        self.assertEqual(post.stand(), ((0,), (1, 0), (2, 1, 0)))
        post.like(2, ())
        self.assertEqual(post.stand(), ((0,), (1, 0), ()))
        self.assertEqual(post.waiting()[-1], (2, 1, [(2, 0), (2, 1, 0), ()]))

    def test_nothing_is_sent_where_nothing_changes(self):
        post = Post(NO_LIKES)
        self.assertEqual(post.read(0, 1), ())
        self.assertEqual(post.heard(1, 0), (0,))
        self.assertEqual(post.waiting(), [(0, 2, [(0,)])])

    def test_by_the_hall(self):
        post = Post(PAIR)
        post.read(0, 1)
        self.assertEqual(post.read(1, 0), (0,))
        self.assertEqual(post.heard(0, 1), (1, 0))
        self.assertEqual(post.stand(), ((0,), (1, 0)))
        self.assertEqual(len(post), 0)

    def test_letters_in_the_order_sent(self):
        post = Post(TWO_MINDS)
        post.read(0, 1)
        post.read(0, 2)
        post.read(2, 1)
        self.assertEqual(post.read(1, 2), (2, 1, 0))
        self.assertEqual(post.heard(2, 1), (1, 0))
        self.assertEqual(post.read(1, 2), (2, 0))
        self.assertEqual(post.heard(2, 1), (1, 2, 0))

    def test_no_letter(self):
        post = Post(TWO_MINDS)
        before = shown(post)
        for sender, reader in ((1, 0), (1, 2), (2, 1), (0, 0), (0, 3), (3, 0), (-1, 0), (0, -1), (0, -2)):
            self.assertEqual(refused(post.read, sender, reader), "NoLetter")
        for sender, reader in ((False, 1), (0, True), (False, True), ("0", 1), (0, "1"), ((0,), 1), ([0], [1])):
            self.assertEqual(refused(post.read, sender, reader), "NoLetter")
        for thing, other in product(THINGS, repeat=2):
            if (type(thing), thing, type(other), other) not in ((int, 0, int, 1), (int, 0, int, 2)):
                self.assertEqual(refused(post.read, thing, other), "NoLetter")
        self.assertEqual(shown(post), before)
        post.read(0, 1)
        self.assertEqual(refused(post.read, 0, 1), "NoLetter")


class TestCut(unittest.TestCase):
    def test_both_orders(self):
        for one, other in ((0, 1), (1, 0)):
            post = Post(TWO_MINDS)
            self.assertIsNone(post.cut(one, other))
            self.assertEqual(post.broken(), [(0, 1)])
            self.assertEqual(post.waiting(), [(0, 2, [(0,)])])

    def test_letters_on_it_are_gone(self):
        post = Post(TWO_MINDS)
        post.read(0, 1)
        post.read(0, 2)
        post.cut(2, 1)
        self.assertEqual(post.waiting(), [(1, 0, [(1, 0)]), (2, 0, [(2, 0)])])
        self.assertEqual(post.stand(), ((0,), (1, 0), (2, 0)))

    def test_both_ends_have_heard_nothing_and_choose(self):
        post = Post(TWO_MINDS)
        for sender, reader in ((0, 1), (0, 2), (1, 2), (2, 1), (2, 1)):
            post.read(sender, reader)
        self.assertEqual(post.heard(2, 1), (1, 0))
        self.assertEqual(post.stand(), ((0,), (1, 0), (2, 1, 0)))
        post.cut(1, 2)
        self.assertEqual(post.heard(1, 2), ())
        self.assertEqual(post.heard(2, 1), ())
        self.assertEqual(post.stand(), ((0,), (1, 0), (2, 0)))
        self.assertEqual(post.waiting()[-1], (2, 0, [(2, 0), (2, 1, 0), (2, 0)]))

    def test_the_lesser_house_chooses_first(self):
        # Both lose their way at once, and both tell house 3 and the hall.
        guild = (4, ((0, 1), (0, 2), (1, 2), (1, 3), (2, 3)),
                 (((1, 2, 0), (1, 0)), ((2, 1, 0), (2, 0)), ((3, 1, 0), (3, 2, 0))))
        post = Post(guild)
        for sender, reader in ((0, 1), (0, 2), (1, 2), (2, 1)):
            post.read(sender, reader)
        self.assertEqual(post.stand(), ((0,), (1, 2, 0), (2, 1, 0), ()))
        post.cut(2, 1)
        self.assertEqual(post.stand(), ((0,), (1, 0), (2, 0), ()))
        plain = PlainPost(guild)
        for row in (("read", 0, 1), ("read", 0, 2), ("read", 1, 2), ("read", 2, 1), ("cut", 1, 2)):
            plain.deed(*row)
        # Read one by one in the order in which they were sent, as the plain post has them numbered.
        letters = [ends for _, ends, _ in plain.state().letters()]
        self.assertLess(letters.index((1, 3)), letters.index((2, 3)))
        whole = Post(guild)
        for sender, reader in ((0, 1), (0, 2), (1, 2), (2, 1)):
            whole.read(sender, reader)
        whole.cut(1, 2)
        for sender, reader in letters:
            post.read(sender, reader)
        count = len(letters)
        self.assertEqual(refused(whole.settle, most=count - 1), ("Unsettled", count - 1))
        post.settle()
        whole.settle()
        self.assertEqual(post, whole)

    def test_no_letter_comes_along_it(self):
        post = Post(TWO_MINDS, broken=((1, 2),))
        post.settle()
        self.assertEqual(post.heard(1, 2), ())
        self.assertEqual(post.stand(), ((0,), (1, 0), (2, 0)))
        post.cut(0, 1)
        self.assertEqual(post.stand(), ((0,), (), (2, 0)))
        self.assertEqual(post.waiting(), [])

    def test_refused(self):
        post = Post(BEHIND)
        post.cut(1, 2)
        before = shown(post)
        for asking in (post.cut, post.mend):
            for one, other in ((0, 1), (1, 0), (0, 0), (2, 2), (3, 0), (0, -1), (2, False), (True, 2), ("0", "2")):
                self.assertEqual(refused(asking, one, other), "NoRoad")
            for thing, other in product(THINGS, repeat=2):
                if (type(thing), type(other)) != (int, int) or {thing, other} not in ({0, 2}, {1, 2}):
                    self.assertEqual(refused(asking, thing, other), "NoRoad")
        self.assertEqual(refused(post.cut, 1, 2), "Broken")
        self.assertEqual(refused(post.cut, 2, 1), "Broken")
        self.assertEqual(refused(post.mend, 0, 2), "Whole")
        self.assertEqual(refused(post.mend, 2, 0), "Whole")
        self.assertEqual(shown(post), before)


class TestMend(unittest.TestCase):
    def test_both_ends_send_their_way_the_lesser_house_first(self):
        for one, other in ((1, 2), (2, 1)):
            post = Post(TWO_MINDS, broken=((1, 2),))
            post.read(0, 1)
            self.assertIsNone(post.mend(one, other))
            self.assertEqual(post.broken(), [])
            self.assertEqual(post.waiting(), [(0, 2, [(0,)]), (1, 0, [(1, 0)]), (1, 2, [(1, 0)]), (2, 1, [()])])
            same = Post(TWO_MINDS, broken=((1, 2),))
            same.read(0, 1)
            same.mend(1, 2)
            self.assertEqual(post, same)

    def test_nothing_is_heard_until_letters_are_read(self):
        post = Post(PAIR)
        post.settle()
        post.cut(0, 1)
        self.assertEqual(post.stand(), ((0,), ()))
        post.mend(0, 1)
        self.assertEqual(post.stand(), ((0,), ()))
        self.assertEqual(post.heard(1, 0), ())
        self.assertEqual(post.read(0, 1), (1, 0))

    def test_whole(self):
        post = Post(PAIR)
        self.assertEqual(refused(post.mend, 0, 1), "Whole")
        post.cut(0, 1)
        post.mend(0, 1)
        self.assertEqual(refused(post.mend, 1, 0), "Whole")


class TestLike(unittest.TestCase):
    def test_likes_from_then_on(self):
        post = Post(TWO_MINDS)
        self.assertIsNone(post.like(1, ((1, 0),)))
        self.assertEqual(post.likes(), (((1, 0),), TWO_MINDS[2][1]))
        self.assertEqual(len(post), 2)

    def test_it_chooses(self):
        post = Post(TWO_MINDS)
        post.read(0, 1)
        post.like(1, ())
        self.assertEqual(post.stand(), ((0,), (), ()))
        self.assertEqual(post.waiting(), [(0, 2, [(0,)]), (1, 0, [(1, 0), ()]), (1, 2, [(1, 0), ()])])
        post.like(1, ((1, 2, 0), (1, 0)))
        self.assertEqual(post.stand(), ((0,), (1, 0), ()))

    def test_nothing_is_sent_where_the_way_stays(self):
        post = Post(TWO_MINDS)
        post.read(0, 1)
        before = len(post)
        post.like(1, ((1, 0), (1, 2, 0)))
        self.assertEqual(len(post), before)

    def test_along_a_broken_road(self):
        post = Post(TWO_MINDS, broken=((0, 1),))
        self.assertIsNone(post.like(1, ((1, 0), (1, 2, 0))))
        post.settle()
        self.assertEqual(post.stand(), ((0,), (1, 2, 0), (2, 0)))
        post.mend(0, 1)
        post.settle()
        self.assertEqual(post.stand(), ((0,), (1, 0), (2, 1, 0)))

    def test_no_house(self):
        post = Post(TWO_MINDS)
        before = shown(post)
        for house in (0, 3, -1, 10 ** 39, True, False, None, "1", (1,), [1], 1 - 4):
            self.assertEqual(refused(post.like, house, ()), "NoHouse")
            self.assertEqual(refused(post.like, house, None), "NoHouse")
        for thing in THINGS:
            if not (type(thing) is int and thing in (1, 2)):
                self.assertEqual(refused(post.like, thing, ()), "NoHouse")
                self.assertEqual(refused(post.like, thing, thing), "NoHouse")
        self.assertEqual(shown(post), before)

    def test_no_likes(self):
        post = Post(TWO_MINDS)
        before = shown(post)
        for ways in (
            ((2, 0),), ((0,),), ((1,),), ((),), ((1, 0), (1, 0)), [(1, 0)], ([1, 0],), ((1, 3, 0),), ((1, 2),),
            ((1, 2, 1, 0),), ((True, 0),), ((1, False),), ((1, 0), None), (1, 0), None, "1-0", ((1, 0), (2, 0)),
        ):
            self.assertEqual(refused(post.like, 1, ways), "NoLikes", ways)
        for thing in THINGS:
            if thing not in ((), ((1, 0),)) or type(thing) is not tuple:
                self.assertEqual(refused(post.like, 1, thing), "NoLikes", thing)
        for odd in loosened(((1, 2, 0), (1, 0))):
            self.assertEqual(refused(post.like, 1, odd), "NoLikes", odd)
        self.assertEqual(refused(Post(BEHIND).like, 1, ((1, 0),)), "NoLikes")
        self.assertEqual(shown(post), before)

    def test_six_and_seven(self):
        post = Post(SEVEN)
        ways = tuple(ways_of(1, 7, SEVEN[1])[:7])
        self.assertEqual(refused(post.like, 1, ways), "NoLikes")
        self.assertIsNone(post.like(1, ways[:6]))
        self.assertEqual(post.likes()[0], ways[:6])


class TestSettle(unittest.TestCase):
    def test_how_many_were_read(self):
        self.assertEqual(Post(PAIR).settle(), 2)
        self.assertEqual(Post(ALONE).settle(), 0)
        self.assertEqual(Post(NO_LIKES).settle(), 2)
        post = Post(CHAIN)
        # The hall tells house 1; each of the others tells both neighbours, the last one alone only one.
        self.assertEqual(post.settle(), 1 + 2 * 5 + 1)
        self.assertEqual(len(post), 0)
        self.assertEqual(post.settle(), 0)

    def test_in_the_order_sent(self):
        for guild in [SQUARE, CALMED, SEVEN, CHAIN] + [one for one in random_guilds(241, 30, (3, 4, 5), 3)]:
            plain = PlainPost(guild)
            post = Post(guild)
            right = asked(plain.deed, "settle", 300)
            self.assertEqual(refused(post.settle, most=300), right)
            self.assertEqual(shown(post), plain.state().shown())

    def test_just_as_many_one_less_none(self):
        for guild in (PAIR, SQUARE, CHAIN, SEVEN, NO_LIKES):
            count = Post(guild).settle()
            self.assertGreater(count, 0)
            post = Post(guild)
            before = shown(post)
            for most in (count - 1, 0):
                self.assertEqual(refused(post.settle, most=most), ("Unsettled", most))
                self.assertEqual(shown(post), before)
                self.assertEqual(refused(post.back), "NothingLeft")
            self.assertEqual(post.settle(most=count), count)
            self.assertEqual(post.settle(most=0), 0)

    def test_most_left_out(self):
        post = Post(TWO_MINDS)
        before = shown(post)
        self.assertEqual(refused(post.settle), ("Unsettled", MOST))
        self.assertEqual(refused(post.settle, most=2000), ("Unsettled", 2000))
        self.assertEqual(shown(post), before)
        self.assertEqual(len(post), 2)

    def test_by_name_alone(self):
        with self.assertRaises(TypeError):
            Post(PAIR).settle(5)


class TestBackAndAgain(unittest.TestCase):
    def deeds(self):
        return (
            lambda post: post.read(0, 1), lambda post: post.cut(0, 2), lambda post: post.mend(0, 2),
            lambda post: post.like(1, ((1, 0),)), lambda post: post.settle(), lambda post: post.cut(1, 2),
            lambda post: post.settle(), lambda post: post.like(2, ()), lambda post: post.settle(),
        )

    def test_each_kind_taken_back_and_done_again(self):
        post = Post(TWO_MINDS)
        states = [shown(post)]
        for deed in self.deeds():
            deed(post)
            states.append(shown(post))
        for state in reversed(states[:-1]):
            self.assertIsNone(post.back())
            self.assertEqual(shown(post), state)
        self.assertEqual(refused(post.back), "NothingLeft")
        self.assertEqual(post, Post(TWO_MINDS))
        for state in states[1:]:
            self.assertIsNone(post.again())
            self.assertEqual(shown(post), state)
        self.assertEqual(refused(post.again), "NothingLeft")

    def test_a_deed_done_between(self):
        post = Post(TWO_MINDS)
        post.read(0, 1)
        post.read(0, 2)
        post.back()
        post.cut(1, 2)
        self.assertEqual(refused(post.again), "NothingLeft")
        post.back()
        post.back()
        self.assertEqual(post, Post(TWO_MINDS))
        post.again()
        post.again()
        self.assertEqual(post.broken(), [(1, 2)])

    def test_refused_deeds_are_none(self):
        post = Post(TWO_MINDS)
        self.assertEqual(refused(post.back), "NothingLeft")
        self.assertEqual(refused(post.again), "NothingLeft")
        post.read(0, 1)
        post.back()
        refused(post.read, 1, 0)
        refused(post.cut, 1, 1)
        refused(post.mend, 0, 1)
        refused(post.like, 1, None)
        refused(post.settle, most=0)
        refused(post.back)
        post.again()
        self.assertEqual(post.stand(), ((0,), (1, 0), ()))
        refused(post.read, 0, 1)
        refused(post.settle, most=0)
        post.back()
        self.assertEqual(post, Post(TWO_MINDS))
        self.assertEqual(refused(post.back), "NothingLeft")

    def test_deeds_that_change_nothing_are_deeds(self):
        post = Post(ALONE)
        post.settle()
        post.like(1, ())
        post.back()
        post.back()
        self.assertEqual(refused(post.back), "NothingLeft")
        post.again()
        post.settle()
        self.assertEqual(refused(post.again), "NothingLeft")

    def test_asking_is_no_deed(self):
        post = Post(TWO_MINDS)
        post.read(0, 1)
        post.back()
        shown(post)
        str(post), len(post), post == Post(PAIR), post.diary(), post.open_plays()
        post.again()
        self.assertEqual(post.stand()[1], (1, 0))

    def test_what_was_taken_back_was_never_done(self):
        post, other = Post(SQUARE), Post(SQUARE)
        for deed in (lambda: post.read(0, 1), lambda: post.cut(1, 2), lambda: post.settle(), lambda: post.mend(1, 2)):
            deed()
        for _ in range(4):
            post.back()
        self.assertEqual(post, other)
        self.assertEqual(post.settle(), other.settle())
        self.assertEqual(post, other)


class TestTold(unittest.TestCase):
    def test_several_letters_on_one_road(self):
        post = Post(TWO_MINDS)
        for sender, reader in ((0, 1), (0, 2), (2, 1), (1, 2)):
            post.read(sender, reader)
        self.assertEqual(
            post.waiting(),
            [
                (1, 0, [(1, 0), (1, 2, 0)]), (1, 2, [(1, 2, 0)]), (2, 0, [(2, 0), (2, 1, 0)]), (2, 1, [(2, 1, 0)]),
            ],
        )
        self.assertEqual(len(post), 6)

    def test_kinds(self):
        post = Post(TWO_MINDS)
        self.assertIs(type(post.stand()), tuple)
        self.assertIs(type(post.waiting()), list)
        self.assertIs(type(post.waiting()[0]), tuple)
        self.assertIs(type(post.waiting()[0][2]), list)
        self.assertIs(type(post.broken()), list)
        self.assertIs(type(post.likes()), tuple)
        self.assertIs(type(post.heard(0, 1)), tuple)
        self.assertIs(type(Post(PAIR).settle()), int)

    def test_heard(self):
        post = Post(BEHIND)
        post.settle()
        self.assertEqual(post.heard(2, 0), (0,))
        self.assertEqual(post.heard(0, 2), (2, 0))
        self.assertEqual(post.heard(1, 2), (2, 0))
        self.assertEqual(post.heard(2, 1), (1, 2, 0))
        for one, other in ((0, 1), (1, 0), (0, 0), (1, 1), (2, 2)):
            self.assertEqual(refused(post.heard, one, other), "NoRoad")
        for one, other in ((3, 0), (0, 3), (-1, 0), (0, -1), (3, 3), (True, 2), (2, False), ("2", 0), (2, None)):
            self.assertEqual(refused(post.heard, one, other), "NoHouse")
        for thing in THINGS:
            if not (type(thing) is int and 0 <= thing < 3):
                for house in (0, 1, 2):
                    self.assertEqual(refused(post.heard, thing, house), "NoHouse")
                    self.assertEqual(refused(post.heard, house, thing), "NoHouse")
                self.assertEqual(refused(post.heard, thing, thing), "NoHouse")

    def test_heard_along_a_broken_road(self):
        self.assertEqual(Post(PAIR, broken=((0, 1),)).heard(1, 0), ())

    def test_broken_roads_rise(self):
        post = Post(SEVEN)
        for one, other in ((6, 5), (0, 3), (2, 1), (1, 0)):
            post.cut(one, other)
        self.assertEqual(post.broken(), [(0, 1), (0, 3), (1, 2), (5, 6)])
        post.mend(3, 0)
        self.assertEqual(post.broken(), [(0, 1), (1, 2), (5, 6)])

    def test_text(self):
        post = Post(TWO_MINDS)
        self.assertEqual(str(post), "0 none none")
        post.read(0, 2)
        self.assertEqual(str(post), "0 none 2-0")
        post.read(2, 1)
        self.assertEqual(str(post), "0 1-2-0 2-0")
        self.assertEqual(str(Post(SEVEN)), "0 none none none none none none")
        self.assertEqual(f"{post}", str(post))


class TestEqual(unittest.TestCase):
    def test_by_other_deeds(self):
        one, other = Post(TWO_MINDS), Post(TWO_MINDS)
        self.assertTrue(one == other)
        self.assertFalse(one != other)
        self.assertTrue(one == one)
        one.like(1, ((1, 0),))
        one.like(1, TWO_MINDS[2][0])
        self.assertTrue(one == other)
        one.cut(1, 2)
        self.assertFalse(one == other)
        self.assertTrue(one == Post(TWO_MINDS, broken=((2, 1),)))
        one.back()
        self.assertTrue(one == other)

    def test_what_can_be_taken_back_and_the_diary_do_not_count(self):
        one, other = Post(TWO_MINDS), Post(TWO_MINDS)
        one.play([])
        one.read(0, 1)
        one.back()
        self.assertTrue(one == other)

    def test_houses(self):
        self.assertFalse(Post((2, (), ((),))) == Post((3, (), ((), ()))))

    def test_roads(self):
        self.assertFalse(Post((3, ((1, 2),), ((), ()))) == Post((3, (), ((), ()))))

    def test_broken_roads(self):
        guild = (3, ((1, 2),), ((), ()))
        self.assertFalse(Post(guild) == Post(guild, broken=((1, 2),)))
        guild = (3, ((0, 1), (0, 2), (1, 2)), ((), ()))
        one, other = Post(guild, broken=((0, 1), (1, 2))), Post(guild, broken=((2, 1), (1, 0)))
        self.assertTrue(one == other)

    def test_likes(self):
        one, other = Post(TWO_MINDS), Post(TWO_MINDS)
        other.like(1, TWO_MINDS[2][0][::-1])
        self.assertEqual(one.waiting(), other.waiting())
        self.assertFalse(one == other)

    def test_heard_alone(self):
        # House 1 likes nothing, so what it heard from house 2 shows nowhere else.
        one, other = [Post((3, ((0, 2), (1, 2)), ((), ()))) for _ in range(2)]
        for post in (one, other):
            post.read(0, 2)
            post.cut(1, 2)
            post.mend(1, 2)
        self.assertTrue(one == other)
        one.read(2, 1)
        one.like(2, ((2, 0),))
        one.read(2, 0)
        one.read(2, 1)
        one.like(2, ())
        one.read(2, 0)
        self.assertEqual(one.waiting(), other.waiting())
        self.assertEqual((one.stand(), one.likes(), one.broken()), (other.stand(), other.likes(), other.broken()))
        self.assertEqual((one.heard(1, 2), other.heard(1, 2)), ((2, 0), ()))
        self.assertFalse(one == other)
        one.read(2, 1)
        other.read(2, 1)
        self.assertTrue(one == other)

    def test_letters_alone(self):
        one, other = [Post((3, ((1, 2),), ((), ()))) for _ in range(2)]
        one.cut(1, 2)
        one.mend(1, 2)
        self.assertEqual(one.waiting(), [(1, 2, [()]), (2, 1, [()])])
        self.assertFalse(one == other)
        one.settle()
        self.assertTrue(one == other)

    def test_letters_in_the_order_sent(self):
        # The same letters wait on the same roads; only which of two roads was mended first differs.
        guild = (3, ((0, 1), (0, 2)), ((), ()))
        one, other = Post(guild, broken=((0, 1), (0, 2))), Post(guild, broken=((0, 1), (0, 2)))
        one.mend(0, 1)
        one.mend(0, 2)
        other.mend(0, 2)
        other.mend(0, 1)
        self.assertEqual(shown(one), shown(other))
        self.assertFalse(one == other)
        one.settle()
        other.settle()
        self.assertTrue(one == other)

    def test_ways_alone(self):
        one, other = Post(TWO_MINDS), Post(TWO_MINDS)
        one.read(0, 1)
        self.assertFalse(one == other)
        self.assertTrue(one != other)

    def test_other_things(self):
        post = Post(TWO_MINDS)
        for thing in THINGS + (TWO_MINDS, str(post), post.stand()):
            self.assertFalse(post == thing)
            self.assertFalse(thing == post)
            self.assertTrue(post != thing)
        self.assertFalse(post == mock.ANY)


class TestRandomDeeds(unittest.TestCase):
    """Against the plain post, which does all deeds anew that weren't taken back."""

    def one_deed(self, chance, post, plain):
        houses = list(range(post.many)) + [post.many, True]
        one, other = chance.choice(houses), chance.choice(houses)
        if chance.random() < 0.8 and post.roads:
            one, other = chance.choice(post.roads)[::chance.choice((1, -1))]
        rows = post.waiting()
        kind = chance.choice(("read",) * 8 + ("cut", "cut", "mend", "mend", "mend", "like", "settle", "back", "again"))
        if kind == "read":
            one, other = chance.choice(rows)[:2] if rows and chance.random() < 0.9 else (one, other)
            return refused(post.read, one, other), asked(plain.deed, "read", one, other)
        if kind in ("cut", "mend"):
            return refused(getattr(post, kind), one, other), asked(plain.deed, kind, one, other)
        if kind == "like":
            ways = ways_of(one, post.many, post.roads) if 0 < one < post.many else []
            some = tuple(chance.sample(ways, min(len(ways), chance.randint(0, 7))))
            return refused(post.like, one, some), asked(plain.deed, "like", one, some)
        if kind == "settle":
            most = chance.choice((0, 1, 5, 20, 100))
            return refused(post.settle, most=most), asked(plain.deed, "settle", most)
        return refused(getattr(post, kind)), asked(getattr(plain, kind))

    def test_many_deeds(self):
        chance = Random(251)
        kinds = set()
        for guild in random_guilds(252, 40, (2, 3, 4, 5), 4) + [TWO_MINDS, SQUARE, THREE_MINDS, CALMED]:
            broken = tuple(chance.sample(guild[1], min(len(guild[1]), chance.randint(0, 2))))
            post, plain = Post(guild, broken=broken), PlainPost(guild, broken)
            for _ in range(60):
                told, right = self.one_deed(chance, post, plain)
                self.assertEqual(repr(told), repr(right))
                self.assertEqual(repr(shown(post)), repr(plain.state().shown()))
                kinds.add(told[0] if type(told) is tuple and told and type(told[0]) is str else told)
        self.assertLessEqual(
            {"NoLetter", "NoRoad", "Broken", "Whole", "NoHouse", "NoLikes", "Unsettled", "NothingLeft"}, kinds,
        )


class TestSteady(unittest.TestCase):
    def spoil(self, chance, post, keep_likes):
        for _ in range(chance.randint(0, 25)):
            rows = post.waiting()
            kind = chance.random()
            if kind < 0.6 and rows:
                post.read(*chance.choice(rows)[:2])
            elif kind < 0.95 or keep_likes:
                refused(chance.choice((post.cut, post.mend)), *(chance.choice(post.roads) if post.roads else (0, 0)))
            else:
                house = chance.randint(1, post.many - 1)
                ways = ways_of(house, post.many, post.roads)
                post.like(house, tuple(chance.sample(ways, min(3, len(ways)))))

    def test_no_letter_waits_so_it_is_steady(self):
        chance = Random(261)
        steady = 0
        for guild in random_guilds(262, 80, (2, 3, 4, 5), 3):
            post = Post(guild)
            self.spoil(chance, post, False)
            if type(refused(post.settle, most=300)) is int:
                left = without((post.many, post.roads, post.likes()), post.broken())
                self.assertTrue(is_steady(left, post.stand()))
                for one, other in post.roads:
                    gone = (one, other) in post.broken()
                    self.assertEqual(post.heard(one, other), () if gone else post.stand()[other])
                    self.assertEqual(post.heard(other, one), () if gone else post.stand()[one])
                steady += 1
        self.assertGreater(steady, 50)

    def test_with_an_order_it_comes_to_rest_always_alike(self):
        chance = Random(263)
        guilds = [guild for guild in random_guilds(264, 120, (3, 4, 5, 6), 3) if plain_has_order(guild)]
        self.assertGreater(len(guilds), 40)
        for guild in guilds + [SQUARE, CHAIN, SEVEN]:
            broken = chance.sample(guild[1], min(len(guild[1]), chance.randint(0, 3)))
            ends = []
            for _ in range(3):
                post = Post(guild)
                self.spoil(chance, post, True)
                for road in guild[1]:
                    if road in broken and road not in post.broken():
                        post.cut(*road)
                    if road not in broken and road in post.broken():
                        post.mend(*road)
                read_all(post, chance)
                ends.append(post)
            for post in ends:
                self.assertEqual(post, ends[0])
                self.assertEqual(post.stand(), grown(without(guild, broken)))


class TestLarge(unittest.TestCase):
    def test_seven_houses_with_six_liked_ways(self):
        chance = Random(271)
        for guild in [MANY, STAIRS, SEVEN] + [full_guild(chance) for _ in range(4)] + [random_guild(chance, 7, 6)]:
            began = time.perf_counter()
            post = Post(guild)
            told = refused(post.settle, most=2000)
            self.assertTrue(type(told) is int or told == ("Unsettled", 2000))
            self.assertLess(time.perf_counter() - began, 5)

    def test_hundreds_of_deeds_taken_back_and_done_again(self):
        chance = Random(272)
        for guild in (MANY, full_guild(chance)):
            began = time.perf_counter()
            post = Post(guild)
            count = 0
            while count < 600:
                if len(post):
                    post.read(*chance.choice(post.waiting())[:2])
                else:
                    road = chance.choice(guild[1])
                    (post.mend if road in post.broken() else post.cut)(*road)
                count += 1
            stand = post.stand()
            for _ in range(count):
                post.back()
            self.assertEqual(post, Post(guild))
            for _ in range(count):
                post.again()
            self.assertEqual(post.stand(), stand)
            self.assertEqual(refused(post.again), "NothingLeft")
            self.assertLess(time.perf_counter() - began, 5)


class TestNothingChanged(unittest.TestCase):
    def test_told_lists_are_the_askers_own(self):
        post = Post(TWO_MINDS, broken=((1, 2),))
        post.play([("read", 0, 1)])
        before = shown(post)
        for told in (post.waiting(), post.broken(), post.diary()):
            self.assertTrue(told)
            told.clear()
        for row in post.waiting():
            row[2].clear()
        self.assertEqual(shown(post), before)
        self.assertEqual(len(post.diary()), 2)

    def test_told_lists_stay_as_they_were(self):
        post = Post(TWO_MINDS)
        waiting, broken, diary = post.waiting(), post.broken(), post.diary()
        texts = repr((waiting, broken, diary))
        post.play([("read", 0, 1), ("break", 0, 2), ("like", 2, ())])
        self.assertEqual(repr((waiting, broken, diary)), texts)

    def test_posts_of_one_guild_go_their_own_ways(self):
        guilds = repr(ALL_SAMPLES)
        for guild in ALL_SAMPLES:
            one, other = Post(guild), Post(guild)
            before = shown(other)
            refused(one.settle)
            one.like(1, ())
            for road in guild[1]:
                one.cut(*road)
            self.assertEqual(shown(other), before)
        self.assertEqual(repr(ALL_SAMPLES), guilds)

    def test_same_asked_again(self):
        post = Post(SQUARE)
        post.settle()
        self.assertEqual(shown(post), shown(post))
        self.assertEqual(str(post), str(post))


if __name__ == "__main__":
    unittest.main()

"""Points 28 and 29: how ways, stands and guilds are written, and how a guild is read; point 2 as far as it speaks of these."""

import time
import unittest
from random import Random

from guild_samples import ALL_SAMPLES, ALONE, CHAIN, MANY, NO_LIKES, PAIR, SEVEN, SEVEN_BARE, SQUARE, TWO_MINDS
from guild_samples import full_guild, random_guilds
from likedways.errors import NoText, WayError
from likedways.guilds import is_guild
from likedways.stands import first_stand
from likedways.texts import guild_text, read_guild, stand_text, way_text
from odd_things import MORE_DEEP_THINGS, ODD_THINGS
from refusals import refused

GUILDS = list(ALL_SAMPLES) + [MANY] + random_guilds(281, 60, (2, 3, 4, 5, 6, 7), 6)
TWO_MINDS_TEXT = "3 0-1 0-2 1-2\n1: 1-2-0 1-0\n2: 2-1-0 2-0"
SIGNS = "".join(chr(code) for code in range(32, 127) if chr(code) != chr(37)) + "\n"


class TestWayText(unittest.TestCase):
    def test_no_one_and_more_houses(self):
        self.assertEqual(way_text(()), "none")
        self.assertEqual(way_text((0,)), "0")
        self.assertEqual(way_text((1, 0)), "1-0")
        self.assertEqual(way_text((3, 1, 2, 6, 5, 4, 0)), "3-1-2-6-5-4-0")

    def test_any_tuple_of_whole_numbers(self):
        self.assertEqual(way_text((10, 200, 0)), "10-200-0")
        self.assertEqual(way_text((10 ** 39,)), "1" + "0" * 39)
        self.assertEqual(way_text((1, 1, 1)), "1-1-1")

    def test_told_texts(self):
        self.assertEqual(way_text((2, 1, 0), between=" > "), "2 > 1 > 0")
        self.assertEqual(way_text((2, 1, 0), between=""), "210")
        self.assertEqual(way_text((2,), between=" > "), "2")
        self.assertEqual(way_text((), between=" > "), "none")
        self.assertEqual(way_text((), none="-"), "-")
        self.assertEqual(way_text((), none=""), "")
        self.assertEqual(way_text((), none="x", between="y"), "x")
        self.assertEqual(way_text((1, 0), none="x", between="y"), "1y0")
        self.assertEqual(way_text((0,), none="x"), "0")

    def test_by_name_alone(self):
        with self.assertRaises(TypeError):
            way_text((1, 0), "-")
        with self.assertRaises(TypeError):
            way_text((1, 0), "-", "none")


class TestStandText(unittest.TestCase):
    def test_stands(self):
        self.assertEqual(stand_text(((0,), ())), "0 none")
        self.assertEqual(stand_text(((0,), (1, 0))), "0 1-0")
        self.assertEqual(stand_text(((0,), (1, 2, 0), (), (3, 0))), "0 1-2-0 none 3-0")
        self.assertEqual(stand_text(first_stand(SEVEN)), "0 none none none none none none")


class TestGuildText(unittest.TestCase):
    def test_samples(self):
        self.assertEqual(guild_text(TWO_MINDS), TWO_MINDS_TEXT)
        self.assertEqual(guild_text(PAIR), "2 0-1\n1: 1-0")
        self.assertEqual(
            guild_text(SQUARE), "4 0-1 0-3 1-2 2-3\n1: 1-2-3-0 1-0\n2: 2-3-0 2-1-0\n3: 3-0",
        )

    def test_houses_that_like_none(self):
        self.assertEqual(guild_text(NO_LIKES), "3 0-1 0-2 1-2\n1:\n2:")
        self.assertEqual(guild_text((3, ((0, 2),), ((), ((2, 0),)))), "3 0-2\n1:\n2: 2-0")

    def test_without_roads(self):
        self.assertEqual(guild_text(ALONE), "2\n1:")
        self.assertEqual(guild_text(SEVEN_BARE), "7\n1:\n2:\n3:\n4:\n5:\n6:")


class TestReadGuild(unittest.TestCase):
    def assert_no_text(self, thing):
        with self.assertRaises(WayError, msg=repr(thing)) as caught:
            read_guild(thing)
        self.assertIs(type(caught.exception), NoText)

    def test_each_guild_written_and_read(self):
        for guild in GUILDS:
            told = read_guild(guild_text(guild))
            self.assertEqual(repr(told), repr(guild))
            self.assertIs(is_guild(told), True)

    def test_two_guilds_are_never_written_alike(self):
        texts = {guild_text(guild) for guild in GUILDS}
        self.assertEqual(len(texts), len(set(GUILDS)))

    def test_a_nought_ahead(self):
        for text in ("03 0-1 0-2 1-2\n1: 1-2-0 1-0\n2: 2-1-0 2-0", "3 00-1 0-2 1-2\n1: 1-2-0 1-0\n2: 2-1-0 2-0",
                     "3 0-01 0-2 1-2\n1: 1-2-0 1-0\n2: 2-1-0 2-0", "3 0-1 0-2 1-2\n01: 1-2-0 1-0\n2: 2-1-0 2-0",
                     "3 0-1 0-2 1-2\n1: 01-2-0 1-0\n2: 2-1-0 2-0", "3 0-1 0-2 1-2\n1: 1-2-00 1-0\n2: 2-1-0 2-0"):
            self.assert_no_text(text)

    def test_blanks_and_line_ends(self):
        self.assertEqual(read_guild("2\n1:"), ALONE)
        for text in ("2 \n1:", "2\n1: ", " 2\n1:", "2\n 1:", "2\n1:\n", "\n2\n1:", "2\n\n1:", "2 1:", "2\r\n1:", "2\t\n1:",
                     "2\n1 :", "2  0-1\n1: 1-0", "2 0-1\n1:  1-0", "2 0-1\n1: 1-0 ", "2 0-1\n1: 1-0\n", "2 0-1 \n1: 1-0",
                     "2 0 -1\n1: 1-0", "2 0-1\n1:1-0", "2 / 1:"):
            self.assert_no_text(text)

    def test_rows_put_elsewhere_left_out_or_told_twice(self):
        rows = TWO_MINDS_TEXT.split("\n")
        self.assertEqual(read_guild("\n".join(rows)), TWO_MINDS)
        for at in range(3):
            self.assert_no_text("\n".join(rows[:at] + rows[at + 1:]))
            self.assert_no_text("\n".join(rows[:at] + rows[at:at + 1] + rows[at:]))
        self.assert_no_text("\n".join([rows[0], rows[2], rows[1]]))
        self.assert_no_text("\n".join([rows[1], rows[0], rows[2]]))
        self.assert_no_text("\n".join(rows + ["3:"]))

    def test_other_heads_of_rows(self):
        for head in ("2", "0", "", "x", "1:", "11", "1-0", "+1", "-1", "1;", "1::"):
            self.assert_no_text("2 0-1\n" + head + ": 1-0")
        self.assert_no_text("2 0-1\n1 1-0")
        self.assert_no_text("2 0-1\n1-0")

    def test_roads_and_ways_that_are_none(self):
        for text in ("1\n", "1", "0", "8\n1:\n2:\n3:\n4:\n5:\n6:\n7:", "-2\n1:", "+2\n1:", "2.0\n1:", "2,\n1:",
                     "2 1-0\n1: 1-0", "2 0-2\n1:", "2 0-0\n1:", "2 0-1 0-1\n1: 1-0", "3 0-2 0-1\n1:\n2:", "2 0\n1:",
                     "2 0-1-0\n1:", "2 -\n1:", "2 none\n1:", "2 0-1\n1: 1", "2 0-1\n1: 0", "2 0-1\n1: 0-1",
                     "2\n1: 1-0", "2 0-1\n1: none", "2 0-1\n1: 1-0 1-0", "2 0-1\n1: 1-0-1-0", "2 0-1\n1: 1--0",
                     "2 0-1\n1: 1-0-", "2 0-1\n1: -1-0", "2 0-1\n1: 1_0", "2 0-1\n1: 1>0", "2 0-1\n1: 1-a",
                     "3 0-1 1-2\n1: 1-2-0\n2:", "3 0-1 1-2\n1:\n2: 1-0"):
            self.assert_no_text(text)

    def test_too_many_liked(self):
        ways = ["6-0", "6-1-0", "6-2-0", "6-3-0", "6-4-0", "6-5-0", "6-5-4-0"]
        text = guild_text((7, SEVEN[1], ((),) * 6))
        self.assertTrue(is_guild(read_guild(text + " " + " ".join(ways[:6]))))
        self.assert_no_text(text + " " + " ".join(ways))

    def test_numbers_of_many_figures(self):
        for number in ("1000", "1" * 40, "1" * 4000, "0" * 4000, "1" * 5000):
            self.assert_no_text(number)
            self.assert_no_text(number + "\n1:")
            self.assert_no_text("2 0-" + number + "\n1:")
            self.assert_no_text("2 0-1\n1: " + number)
            self.assert_no_text("2 0-1\n" + number + ": 1-0")

    def test_one_sign_spoilt(self):
        chance = Random(291)
        for guild in (ALONE, PAIR, TWO_MINDS, SQUARE, CHAIN) + tuple(GUILDS[-10:]):
            text = guild_text(guild)
            for at in range(len(text) + 1):
                spoilt = [text[:at] + text[at + 1:]] if at < len(text) else []
                spoilt += [text[:at] + sign + text[at:] for sign in chance.sample(SIGNS, 5) + [" ", "\n", "0", "-"]]
                spoilt += [text[:at] + sign + text[at + 1:] for sign in chance.sample(SIGNS, 5)]
                for other in spoilt:
                    told = refused(read_guild, other)
                    # Some spoilt texts write other guilds; all that is read is so written.
                    self.assertTrue(told == "NoText" or (is_guild(told) and guild_text(told) == other), other)

    def test_things_of_all_kinds(self):
        for thing in ODD_THINGS + MORE_DEEP_THINGS + (TWO_MINDS, [TWO_MINDS_TEXT], (TWO_MINDS_TEXT,)):
            self.assert_no_text(thing)
        for text in ("", " ", "\n", "\n" * 4000, " " * 4000, "-" * 4000, ":", "2", "2:", "none"):
            self.assert_no_text(text)


class TestNothingChanged(unittest.TestCase):
    def test_same_asked_again(self):
        for guild in GUILDS:
            shown = repr(guild)
            text = guild_text(guild)
            self.assertEqual(guild_text(guild), text)
            self.assertEqual(read_guild(text), read_guild(text))
            self.assertEqual(repr(guild), shown)

    def test_large_ones_within_seconds(self):
        chance = Random(292)
        began = time.perf_counter()
        for _ in range(20):
            guild = full_guild(chance)
            self.assertEqual(read_guild(guild_text(guild)), guild)
        self.assertLess(time.perf_counter() - began, 5)


if __name__ == "__main__":
    unittest.main()

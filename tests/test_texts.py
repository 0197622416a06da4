"""leanwebs.texts: webs as texts."""

import unittest

from leanwebs.errors import BadLine, BadPull, BadRatio, BadTie, TooMany
from leanwebs.texts import web_from, web_text
from leanwebs.webs import Web
from tests.helper import HALF, MIXED, WIDE, Case


class TestText(Case):
    def test_web_text(self):
        self.same(web_text(Web(1, [])), "places 1\n")
        self.same(web_text(Web(10, [])), "places 10\n")
        self.same(web_text(Web(3, [(0, 1, HALF), [2, 1, (-2, 6)], (2, 2, 0)])), "places 3\n0 1 1/2\n2 1 -1/3\n2 2 0/1\n")

    def test_there_and_back(self):
        for web in MIXED + (WIDE,):
            self.assertEqual(web_from(web_text(web)), web)

    def test_forms(self):
        for text, many, ties in (
                ("places 2", 2, ()), ("places 2\n", 2, ()), ("\n\n   \nplaces 1\n\n", 1, ()),
                ("   places    10   ", 10, ()), ("places 0003", 3, ()),
                ("places 2\n0 1 1/2", 2, ((0, 1, (1, 2)),)),
                ("places 2\n\n  1   0   -2/4  \n \n01 00 0\n0 0 -0/5\n1 1 -0\n", 2,
                 ((1, 0, (-1, 2)), (1, 0, (0, 1)), (0, 0, (0, 1)), (1, 1, (0, 1)))),
                ("places 2\n0 1 0001/00002", 2, ((0, 1, (1, 2)),)),
                ("places 2\n0 1 00/1", 2, ((0, 1, (0, 1)),))):
            with self.subTest(text):
                found = web_from(text)
                self.assertIsInstance(found, Web)
                self.same((found.many, found.ties), (many, ties))

    def test_long_numerals(self):
        big = "7" * 999 + "8"
        found = web_from(f"places 2\n{'0' * 1000} {'0' * 999}1 -{'7' * 1000}/{big}")
        self.assertEqual(found.ties, ((0, 1, (-int("7" * 1000), int(big))),))
        self.assertEqual(web_text(found), f"places 2\n0 1 -{'7' * 1000}/{big}\n")
        self.assertEqual(web_from(web_text(found)), found)
        self.assertEqual(web_from("places " + "0" * 999 + "7").many, 7)

    def test_zeros_within_long_numerals(self):
        for top in (10 ** 18, 10 ** 18 - 1, 10 ** 36 + 1, 10 ** 600 + 5, 3 * 10 ** 54 + 10 ** 17):
            web = Web(2, [(0, 1, (top, top + 1)), (0, 1, (-top, top + 1))])
            self.assertEqual(web_text(web), f"places 2\n0 1 {top}/{top + 1}\n0 1 -{top}/{top + 1}\n")

    def test_numbers_beyond_what_python_prints(self):
        top = 10 ** 5000
        self.assertEqual(web_text(Web(2, [(0, 1, (top, top + 1))])),
                         "places 2\n0 1 1" + "0" * 5000 + "/1" + "0" * 4999 + "1\n")

    def test_no_words(self):
        for text in ("", "\n", "   ", "\n  \n \n"):
            self.raises(BadLine(0), web_from, text)

    def test_bad_first_line(self):
        for line in ("places", "places 0", "places 11", "places -1", "places 1 1", "place 1", "Places 1", "1 places", "2",
                     "places2", "places x", "places 1/1", "places +1", "places 1.", "0 1 1/2", "places 000", "places _1"):
            with self.subTest(line):
                self.assertIsNone(self.raises(BadLine(1), web_from, line).__cause__)
                self.raises(BadLine(3), web_from, "\n  \n" + line + "\n0 9 5\n")

    def test_bad_form(self):
        for line in ("0", "0 1", "0 1 1/2 0", "0 1 1 / 2", "0 1 1/", "0 1 /2", "0 1 /", "0 1 -", "0 1 --1/2", "0 1 1/-2",
                     "0 1 -/2", "0 1 +1/2", "0 1 1/+2", "0 1 1/2/3", "0 1 0.5", "0 1 1_0/20", "0 1 x", "-0 1 1/2",
                     "0 -1 1/2", "0 +1 1/2", "0 1/1 0", "x 1 0", "0 x 0", "places 2", "places 1 0", "0 1 - 1/2",
                     "0,1 1 0", "0 1 1/2-", "0 1 -1-/2", "1- 0 0"):
            with self.subTest(line):
                self.assertIsNone(self.raises(BadLine(2), web_from, "places 2\n" + line).__cause__)
                self.raises(BadLine(4), web_from, "places 2\n0 1 1/2\n\n" + line + "\n0 1 2\nx")

    def cause(self, number, text):
        return self.raises(BadLine(number), web_from, text).__cause__

    def told(self, found, error):
        self.assertIs(type(found), type(error))
        self.assertEqual(vars(found), vars(error))

    def test_what_is_behind(self):
        self.told(self.cause(3, "places 2\n\n 0 1  3/2"), BadPull(0))
        self.told(self.cause(3, "places 2\n0 1 0\n1 0 1"), BadPull(1))
        self.told(self.cause(2, "places 2\n0 1 -7/7"), BadPull(0))
        self.told(self.cause(2, "places 2\n0 2 0"), BadTie(0))
        self.told(self.cause(3, "places 2\n0 0 0\n" + "9" * 1000 + " 1 0"), BadTie(1))
        self.told(self.cause(2, "places 2\n0 2 5"), BadTie(0))
        self.told(self.cause(2, "places 2\n0 1 1/0"), BadRatio())
        self.told(self.cause(2, "places 2\n0 1 -0/000"), BadRatio())

    def test_eleventh_tie(self):
        text = "places 2\n" + "0 1 1/2\n" * 10
        self.assertEqual(len(web_from(text)), 10)
        self.told(self.cause(12, text + "0 1 1/2"), TooMany(11, 10))
        self.told(self.cause(13, text + "\n0 9 5\n"), TooMany(11, 10))
        self.assertIsNone(self.cause(12, text + "0 1"))

    def test_first_bad_line(self):
        self.raises(BadLine(2), web_from, "places 2\n0 1 1/0\n0 1 x")
        self.raises(BadLine(2), web_from, "places 2\nx\n0 1 1")
        self.raises(BadLine(1), web_from, "places 12\nx\n0 1 1")
        self.raises(BadLine(5), web_from, "\nplaces 2\n\n0 1 0\n0 1 1\n\n0 5 x")


if __name__ == "__main__":
    unittest.main()

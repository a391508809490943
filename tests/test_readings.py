"""[4] half-read marks, and [2] as far as it speaks of them."""

import itertools
import unittest

from tests.helper import BIG, holds_to_point_two
from tinrecall.errors import BadReading
from tinrecall.readings import is_reading, least_slips, marks_read

READINGS = ["a", "0", "9z", "?", "*", "**", "?*?", "[ab]", "[09]", "[a0b1c2]", "a[bc]?*[de]4", "[ab][ab]", "*[xy]*",
            "ab12cd34ef", "?" * 40, "*" * 40, "[abcdef]" * 5]
NO_READINGS = ["", " ", "A", "ab ", "a-b", "a.b", "[", "]", "[]", "[a]", "[ab", "ab]", "[ab]]", "[[ab]", "[a[bc]]",
               "[ab]c]", "[abcdefg]", "[aa]", "[aba]", "[abcdea]", "[a?]", "[a*]", "[*?]", "[aB]", "[a ]", "[a,b]",
               "a\n", "\n", "a\u00e9", "\u0661", "[a\u00e9]", "?!", "*~", "[ab][c]", "[ab][", "*" * 39 + "]"]
MARKS = ["abcd", "abce", "xbcd", "abcd", "abcde", "wxyz", "abxe"]


def slips_by_all_ways(parts, mark):
    """The fewest slips, found by trying all ways to part the mark's signs; None where there is none."""
    if not parts:
        return None if mark else 0
    if parts[0] == "*":
        ways = [slips_by_all_ways(parts[1:], mark[k:]) for k in range(len(mark) + 1)]
    elif not mark:
        return None
    else:
        slip = 0 if parts[0] == "?" or mark[0] in parts[0] else 1
        rest = slips_by_all_ways(parts[1:], mark[1:])
        ways = [None if rest is None else rest + slip]
    return min([way for way in ways if way is not None], default=None)


class IsReadingTest(unittest.TestCase):
    def test_readings(self):
        for text in READINGS:
            with self.subTest(text):
                self.assertIs(is_reading(text), True)

    def test_no_readings(self):
        for text in NO_READINGS:
            with self.subTest(text):
                self.assertIs(is_reading(text), False)

    def test_every_sign_alone(self):
        good = "abcdefghijklmnopqrstuvwxyz0123456789?*"
        for sign in [chr(code) for code in range(0, 256)]:
            self.assertIs(is_reading(sign), sign in good)

    def test_brackets_by_their_length(self):
        signs = "q7w8e9r0"
        for many in range(len(signs) + 1):
            self.assertIs(is_reading("[" + signs[:many] + "]"), 2 <= many <= 6)


class LeastSlipsTest(unittest.TestCase):
    def test_told(self):
        cases = [
            ("abcd", "abcd", 0), ("abcd", "abce", 1), ("abcd", "dcba", 4), ("abcd", "abcde", None),
            ("abcde", "abcd", None), ("????", "ab12", 0), ("???", "ab12", None), ("?????", "ab12", None),
            ("[ab]bcd", "abcd", 0), ("[ab]bcd", "bbcd", 0), ("[ab]bcd", "cbcd", 1), ("[12][34]cd", "14cd", 0),
            ("[12][34]cd", "41cd", 2), ("*", "abcd", 0), ("*", "abcdefghij", 0), ("abcd*", "abcd", 0),
            ("*abcd", "abcd", 0), ("ab*cd", "abcd", 0), ("ab*cd", "abxyzcd", 0), ("ab*cd", "abcxd", 1),
            ("a*c*e", "abcde", 0), ("a*c*e", "aeee", 1), ("a**b", "axyb", 0), ("a**b", "aaab", 0),
            ("***", "abcd", 0), ("*?*?*?*?*", "abcd", 0), ("*?*?*?*?*?*", "abcd", None), ("a*", "bbbb", 1),
            ("*a", "bbbb", 1), ("*a*", "bbbb", 1), ("*a*", "bbab", 0), ("*ab*", "aaxb", 1), ("*aab", "aaaab", 0),
            ("*[xy]z*", "ayxz", 0), ("*[xy]z*", "azxx", 1), ("a", "abcd", None), ("0?[01]*", "0a1b9", 0),
        ]
        for reading, mark, told in cases:
            with self.subTest((reading, mark)):
                self.assertEqual(holds_to_point_two(self, least_slips, reading, mark), told)

    def test_against_all_ways(self):
        written = {"a": "a", "b": "b", "?": "?", "*": "*", "[bc]": "bc"}
        marks = ["".join(signs) for signs in itertools.product("abc", repeat=4)] + ["aabca", "cbabac", "bcbcbcb"]
        for many in range(1, 5):
            for reading in itertools.product(written, repeat=many):
                parts = [written[part] for part in reading]
                for mark in marks[many::5] + marks[-3:]:
                    self.assertEqual(least_slips("".join(reading), mark), slips_by_all_ways(parts, mark))

    def test_long_readings_with_many_lost(self):
        self.assertEqual(least_slips("*" * 40, "abcdefghij"), 0)
        self.assertEqual(least_slips("*?" * 10 + "*" * 20, "abcdefghij"), 0)
        self.assertIsNone(least_slips("*?" * 11 + "*" * 18, "abcdefghij"))
        self.assertEqual(least_slips("*z" * 10 + "*" * 20, "abcdefghij"), 10)
        self.assertEqual(least_slips("*" * 30 + "abcdefghij", "abcdefghij"), 0)
        self.assertEqual(least_slips("a" + "*" * 38 + "a", "abcdefghij"), 1)
        self.assertIsNone(least_slips("?*" * 20, "abcdefghij"))
        self.assertIsNone(least_slips("?" * 40, "abcdefghij"))
        self.assertEqual(least_slips("*[ab]*[ab]*[ab]*[ab]*[ab]*[ab]*[ab]*ab*", "abababababa"[:10]), 0)

    def test_refused(self):
        for text in NO_READINGS:
            for mark in ["abcd", "a", "", "[a]", "ABCD!"]:
                with self.subTest((text, mark)):
                    with self.assertRaises(BadReading):
                        least_slips(text, mark)


class MarksReadTest(unittest.TestCase):
    def test_told(self):
        cases = [
            ("abcd", 0, ["abcd", "abcd"]),
            ("abcd", 1, ["abcd", "abce", "xbcd", "abcd"]),
            ("abcd", 2, ["abcd", "abce", "xbcd", "abcd", "abxe"]),
            ("abcd", 3, ["abcd", "abce", "xbcd", "abcd", "abxe"]),
            ("abcd", 4, ["abcd", "abce", "xbcd", "abcd", "wxyz", "abxe"]),
            ("abcd", BIG, ["abcd", "abce", "xbcd", "abcd", "wxyz", "abxe"]),
            ("*", 0, MARKS),
            ("ab*", 0, ["abcd", "abce", "abcd", "abcde", "abxe"]),
            ("*[de]", 0, ["abcd", "abce", "xbcd", "abcd", "abcde", "abxe"]),
            ("??????", BIG, []),
        ]
        for reading, slips, told in cases:
            with self.subTest((reading, slips)):
                self.assertEqual(holds_to_point_two(self, marks_read, reading, MARKS, slips), told)

    def test_no_marks(self):
        self.assertEqual(holds_to_point_two(self, marks_read, "a*", [], 0), [])
        self.assertEqual(holds_to_point_two(self, marks_read, "a*", [], BIG), [])

    def test_the_order_of_marks_is_kept(self):
        for order in itertools.permutations(["abcd", "zbcd", "abcd", "bbbb"]):
            self.assertEqual(marks_read("*b*", list(order), 0), list(order))

    def test_a_changed_list_is_answered_as_it_is_then(self):
        marks = ["abcd"]
        self.assertEqual(marks_read("a*", marks, 0), ["abcd"])
        marks.append("a999")
        self.assertEqual(marks_read("a*", marks, 0), ["abcd", "a999"])
        marks[0] = "bbbb"
        self.assertEqual(marks_read("a*", marks, 0), ["a999"])

    def test_refused_whatever_the_marks_are(self):
        for text in NO_READINGS:
            for marks in [[], ["abcd"], ["a", "", "?"], ()]:
                with self.subTest((text, marks)):
                    with self.assertRaises(BadReading):
                        marks_read(text, marks, 3)


if __name__ == "__main__":
    unittest.main()

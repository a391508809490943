"""[5] the fewest places at which a mark is told from others."""

import itertools
import unittest

from tests.helper import holds_to_point_two, subsets
from tinrecall.apart import places_apart

ALL_PLACES = subsets(10)


def tells(mark, other, place):
    return mark[place:place + 1] != other[place:place + 1]


def by_all_sets(marks, mark):
    """The first of the smallest, all sets of places gone through."""
    others = [other for other in marks if other != mark]
    fitting = [places for places in ALL_PLACES
               if all(any(tells(mark, other, place) for place in places) for other in others)]
    return min(fitting, key=lambda places: (len(places), places))


class PlacesApartTest(unittest.TestCase):
    def test_told(self):
        cases = [
            (["abcd"], "abcd", []),
            (["abcd", "abce"], "abcd", [3]),
            (["abcd", "abce"], "abce", [3]),
            (["abcd", "zbcd"], "abcd", [0]),
            (["abcd", "abcde"], "abcd", [4]),
            (["abcd", "abcde"], "abcde", [4]),
            (["abcd", "abcdefghij"], "abcd", [4]),
            (["abcd", "abcdefghij"], "abcdefghij", [4]),
            (["abcdefghij", "abcdefghik"], "abcdefghij", [9]),
            (["abcdefghij", "abcdefghi"], "abcdefghi", [9]),
            (["abcd", "efgh"], "abcd", [0]),
            (["abcd", "abxx", "xxcd"], "abcd", [0, 2]),
            (["abcd", "abxx", "xbcx"], "abcd", [3]),
            (["aaaa", "baaa", "abaa", "aaba", "aaab"], "aaaa", [0, 1, 2, 3]),
            (["aaaa", "baaa", "abaa", "aaba", "aaab"], "aaba", [2]),
            (["aaaa", "aabb", "abab", "abba"], "aaaa", [1, 2]),
            (["aaaa", "aaaaa", "aaaab", "baaa"], "aaaa", [0, 4]),
            (["aaaa", "aaaaa", "aaaab", "baaa"], "aaaaa", [4]),
        ]
        for marks, mark, told in cases:
            with self.subTest((marks, mark)):
                self.assertEqual(holds_to_point_two(self, places_apart, marks, mark), told)

    def test_against_all_sets(self):
        signs = ["".join(row) for row in itertools.product("ab", repeat=5)]
        pool = signs[::3] + [one[:4] for one in signs[::7]] + [one + "a" for one in signs[::5]]
        pool = sorted(set(pool))
        for many in (2, 3, 5, 9):
            for start in range(0, len(pool), 3):
                marks = [pool[(start + 4 * k) % len(pool)] for k in range(many)]
                marks = sorted(set(marks), key=lambda mark: mark[::-1])
                for mark in marks:
                    with self.subTest((marks, mark)):
                        self.assertEqual(places_apart(marks, mark), by_all_sets(marks, mark))

    def test_the_order_of_marks_changes_nothing(self):
        marks = ["abcd", "abcx", "axcd", "abcdz", "xbcx"]
        for mark in marks:
            for order in itertools.permutations(marks):
                self.assertEqual(places_apart(list(order), mark), by_all_sets(marks, mark))

    def test_marks_of_ten_signs(self):
        mark = "a" * 10
        near = [mark[:k] + "b" + mark[k + 1:] for k in range(10)]
        far = ["b" * k + "c" * (10 - k) for k in range(10)]
        marks = near + [mark] + far + ["z9z9z9z9z9", "0123456789", "aaaaabbbbb"]
        self.assertEqual(len(marks), 24)
        self.assertEqual(places_apart(marks, mark), list(range(10)))
        for one in marks:
            self.assertEqual(places_apart(marks, one), by_all_sets(marks, one))

    def test_pairs_of_places(self):
        mark = "a" * 10
        pairs = [(0, 9), (1, 9), (2, 8), (3, 8), (4, 7), (5, 7), (6, 9), (6, 8), (0, 1), (2, 3), (4, 5)]
        marks = [mark] + ["".join("b" if k in pair else "a" for k in range(10)) for pair in pairs]
        self.assertEqual(places_apart(marks, mark), by_all_sets(marks, mark))
        self.assertEqual(places_apart(marks, mark), [0, 2, 4, 5, 8, 9])

    def test_a_changed_list_is_answered_as_it_is_then(self):
        marks = ["abcd", "abce"]
        self.assertEqual(places_apart(marks, "abcd"), [3])
        marks.append("zbcd")
        self.assertEqual(places_apart(marks, "abcd"), [0, 3])
        marks.pop(1)
        self.assertEqual(places_apart(marks, "abcd"), [0])


if __name__ == "__main__":
    unittest.main()

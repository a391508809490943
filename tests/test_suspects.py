"""[9] where and when one fault can have been."""

import itertools
import random
import unittest

from tests.helper import (
    BEYOND, BIG, faults_tried, holds_to_point_two, meets, places_in, small_case, spans_between, window_of)
from tinrecall.suspects import suspects

ONE = ("aaaa", 6, [("racks", "cooker", 2, [(10, 20), (15, 30), (5, 9)]), ("line", "filler", 0, 1, 1)])
TWO = ("bbbb", 5, [("racks", "cooker", 1, [(12, 13), (18, 25), (0, 0), (21, 40), (0, 60)])])
BARE = ("cccc", 3, [])
ALL = [TWO, BARE, ONE]


def rows_tried(batches, tests):
    """What suspects must tell, every fault gone through before a minute behind all windows."""
    rows = []
    for place in places_in(batches):
        bad = [window_of(batches, place, test) for test in tests if test[2] == "bad"]
        good = [window_of(batches, place, test) for test in tests if test[2] == "good"]
        spans = spans_between(bad, good, BEYOND)
        free = [minute for minute in range(BEYOND) if not any(meets(window, minute, minute) for window in good)]
        for first in [minute for minute in free if minute - 1 not in free]:
            last = next(minute for minute in free if minute >= first and minute + 1 not in free)
            within = [span for span in spans if first <= span[0] and span[1] <= last]
            if within:
                end = None if last == BEYOND - 1 else last
                rows.append((place, first, end, max(begin for begin, _ in within), min(end for _, end in within)))
    return rows


class SuspectsTest(unittest.TestCase):
    def assert_told(self, batches, tests, told):
        with self.subTest(tests):
            self.assertEqual(holds_to_point_two(self, suspects, batches, tests), told)

    def test_places(self):
        cases = [
            ([BARE], [("cccc", 0, "bad")], []),
            ([BARE], [("cccc", 2, "bad"), ("cccc", 2, "bad"), ("cccc", 1, "good")], []),
            (ALL, [("cccc", 0, "bad")], []),
            ([ONE], [("aaaa", 0, "bad")], [("cooker", 0, None, 20, 10), ("filler", 0, None, 0, 0)]),
            ([ONE], [("aaaa", 5, "bad")], [("cooker", 0, None, 9, 5), ("filler", 0, None, 5, 5)]),
            # Only ONE passes the filler, so a bad tin of TWO shuts it out, and a good one doesn't.
            (ALL, [("bbbb", 1, "bad")], [("cooker", 0, None, 25, 18)]),
            (ALL, [("bbbb", 1, "bad"), ("aaaa", 2, "bad")], [("cooker", 0, None, 25, 18)]),
            (ALL, [("aaaa", 0, "bad"), ("bbbb", 3, "good")],
             [("cooker", 0, 20, 20, 10), ("filler", 0, None, 0, 0)]),
            (ALL, [("aaaa", 0, "bad"), ("cccc", 0, "good")],
             [("cooker", 0, None, 20, 10), ("filler", 0, None, 0, 0)]),
            (ALL, [("aaaa", 0, "bad"), ("cccc", 0, "bad")], []),
            (ALL, [("aaaa", 0, "bad"), ("bbbb", 4, "good")], [("filler", 0, None, 0, 0)]),
        ]
        for batches, tests, told in cases:
            self.assert_told(batches, tests, told)

    def test_tins_tested_several_times(self):
        told = [("cooker", 0, 14, 14, 10), ("filler", 0, 1, 0, 0)]
        bad, good = ("aaaa", 0, "bad"), ("aaaa", 2, "good")
        for tests in ([bad, good], [good, bad, bad], [bad, good, good, bad, good]):
            self.assert_told([ONE], tests, told)
        self.assert_told([ONE], [bad, ("aaaa", 0, "good")], [])
        self.assert_told([ONE], [("aaaa", 0, "good"), good, bad], [])
        self.assert_told(ALL, [("bbbb", 4, "bad"), ("bbbb", 4, "good")], [])
        # The other tin of the rack was there all the while, too, but past the filler at another minute.
        self.assert_told([ONE], [bad, ("aaaa", 1, "good")], [("filler", 0, 0, 0, 0)])

    def test_windows_that_touch_meet_and_lie_within(self):
        def told_of(bad, good):
            stays = [*bad, *good]
            batch = ("aaaa", len(stays), [("racks", "here", 1, stays)])
            tests = [("aaaa", k, "bad" if k < len(bad) else "good") for k in range(len(stays))]
            told = suspects([batch], tests)
            self.assertEqual({row[0] for row in told} | {"here"}, {"here"})
            return [row[1:] for row in told]

        cases = [
            ([(5, 9)], [], [(0, None, 9, 5)]),
            ([(0, 0)], [], [(0, None, 0, 0)]),
            ([(0, 0)], [(1, 1)], [(0, 0, 0, 0)]),
            ([(0, 3)], [(0, 0)], [(1, None, 3, 1)]),
            ([(0, 3)], [(0, 2)], [(3, None, 3, 3)]),
            ([(0, 3)], [(0, 3)], []),
            ([(5, 9)], [(0, 4)], [(5, None, 9, 5)]),
            ([(5, 9)], [(0, 5)], [(6, None, 9, 6)]),
            ([(5, 9)], [(10, 12)], [(0, 9, 9, 5)]),
            ([(5, 9)], [(9, 12)], [(0, 8, 8, 5)]),
            ([(5, 9)], [(5, 5)], [(6, None, 9, 6)]),
            ([(5, 9)], [(9, 9)], [(0, 8, 8, 5)]),
            ([(5, 9)], [(6, 8)], [(0, 5, 5, 5), (9, None, 9, 9)]),
            ([(5, 9)], [(7, 7)], [(0, 6, 6, 5), (8, None, 9, 8)]),
            ([(5, 9)], [(7, 7), (7, 7), (0, 3), (12, 20)], [(4, 6, 6, 5), (8, 11, 9, 8)]),
            ([(5, 9)], [(6, 6), (8, 8)], [(0, 5, 5, 5), (7, 7, 7, 7), (9, None, 9, 9)]),
            ([(5, 9)], [(8, 8), (6, 7)], [(0, 5, 5, 5), (9, None, 9, 9)]),
            ([(5, 9)], [(4, 10)], []),
            ([(5, 9)], [(5, 7), (7, 9)], []),
            ([(5, 9)], [(5, 7), (8, 9)], []),
            ([(5, 9)], [(5, 6), (8, 9)], [(7, 7, 7, 7)]),
            ([(5, 9)], [(20, 30)], [(0, 19, 9, 5)]),
            ([(5, 9)], [(0, 2)], [(3, None, 9, 5)]),
            ([(5, 9), (9, 12)], [], [(0, None, 9, 9)]),
            ([(5, 9), (10, 12)], [], [(0, None, 9, 10)]),
            ([(5, 9), (20, 22)], [], [(0, None, 9, 20)]),
            ([(5, 9), (20, 22)], [(10, 10)], []),
            ([(5, 9), (20, 22)], [(9, 9)], []),
            ([(5, 9), (20, 22)], [(20, 20)], []),
            ([(5, 9), (20, 22)], [(19, 19)], []),
            ([(5, 9), (20, 22)], [(8, 8)], [(9, None, 9, 20)]),
            ([(5, 9), (20, 22)], [(21, 21), (4, 5)], [(6, 20, 9, 20)]),
            ([(5, 9), (6, 8)], [(7, 7)], [(0, 6, 6, 6), (8, None, 8, 8)]),
            ([(5, 9), (6, 8), (0, 30)], [(7, 7)], [(0, 6, 6, 6), (8, None, 8, 8)]),
            ([(5, 9), (7, 7), (0, 30)], [(6, 6)], [(7, None, 7, 7)]),
            ([(5, 9), (7, 7), (0, 30)], [(6, 8)], []),
        ]
        for bad, good, told in cases:
            with self.subTest((bad, good)):
                self.assertEqual(told_of(bad, good), told)
                self.assertEqual(told_of(bad[::-1], good[::-1]), told)

    def test_order_of_rows(self):
        stays = [(5, 9), (6, 6), (8, 8)]
        passes = [("racks", place, 1, stays) for place in ("zz", "b", "ab", "aa")]
        tests = [("aaaa", 2, "good"), ("aaaa", 1, "good"), ("aaaa", 0, "bad")]
        rows = [(0, 5, 5, 5), (7, 7, 7, 7), (9, None, 9, 9)]
        told = [(place, *row) for place in ("aa", "ab", "b", "zz") for row in rows]
        self.assert_told([("aaaa", 3, passes)], tests, told)
        self.assert_told([BARE, ("aaaa", 3, passes[::-1]), TWO], tests, told)

    def test_against_all_faults_gone_through(self):
        rng = random.Random(9)
        several = 0
        for _ in range(1000):
            batches, tests = small_case(rng)
            told = suspects(batches, tests)
            self.assertEqual(told, rows_tried(batches, tests), (batches, tests))
            several += len(told) > len({row[0] for row in told})
            spans = set()
            for place, first, last, latest, earliest in told:
                self.assertLessEqual(first, latest)
                self.assertLessEqual(latest, BEYOND if last is None else last)
                self.assertLessEqual(first, earliest)
                self.assertLessEqual(earliest, BEYOND if last is None else last)
                ends = range(earliest, BEYOND if last is None else last + 1)
                spans |= {(place, begin, end) for begin in range(first, latest + 1) for end in ends if begin <= end}
            self.assertEqual(spans, set(faults_tried(batches, tests)))
        self.assertGreater(several, 10)

    def test_the_order_of_tests_and_batches_changes_nothing(self):
        tests = [("aaaa", 0, "bad"), ("bbbb", 4, "bad"), ("bbbb", 0, "good"), ("aaaa", 3, "good"), ("cccc", 1, "good")]
        told = suspects(ALL, tests)
        self.assertEqual(told, [("cooker", 0, 11, 11, 10), ("cooker", 14, 14, 14, 14)])
        for order in itertools.permutations(tests):
            self.assertEqual(suspects(ALL, list(order)), told)
            self.assertEqual(suspects(ALL, [*order, order[2]]), told)
        for order in itertools.permutations(ALL):
            self.assertEqual(suspects(list(order), tests), told)

    def test_great_numbers(self):
        line = ("line", "filler", BIG, 1, 10)
        racked = ("racks", "cooker", 10 * BIG, [(0, 5 * BIG), (BIG, 2 * BIG), (7 * BIG, 9 * BIG)])
        batch = ("aaaa", 25 * BIG, [racked, line])
        self.assert_told([batch], [("aaaa", 3, "bad")],
                         [("cooker", 0, None, 5 * BIG, 0), ("filler", 0, None, BIG, BIG)])
        self.assert_told([batch], [("aaaa", 3, "bad"), ("aaaa", 10 * BIG, "good")], [
            ("cooker", 0, BIG - 1, BIG - 1, 0), ("cooker", 2 * BIG + 1, None, 5 * BIG, 2 * BIG + 1),
            ("filler", 0, 2 * BIG - 1, BIG, BIG)])
        self.assert_told([batch], [("aaaa", 3, "bad"), ("aaaa", 10 * BIG - 1, "bad"), ("aaaa", 25 * BIG - 1, "good")], [
            ("cooker", 0, 7 * BIG - 1, 5 * BIG, 0), ("filler", 0, 35 * BIG // 10 - 2, BIG, 2 * BIG - 1)])

    def test_twelve_batches_and_twenty_four_tests(self):
        stays = [[(BIG * i, BIG * i + k) for i in range(12)] for k in range(12)]
        passes = [[("racks", "p" + sign, 1, stays[k]) for sign in "abcdef"] for k in range(12)]
        batches = [("ab" + str(10 + k), 12, passes[k]) for k in range(12)]
        tests = [("ab" + str(10 + k), 6, "bad") for k in range(12)]
        tests += [("ab" + str(10 + k), k, "good") for k in range(6)]
        tests += [("ab" + str(16 + k), 7, "good") for k in range(6)]
        told = [("p" + sign, 5 * BIG + 6, 7 * BIG - 1, 6 * BIG, 6 * BIG) for sign in "abcdef"]
        self.assert_told(batches, tests, told)

    def test_changed_lists_are_answered_as_they_are_then(self):
        stays = [(5, 9), (7, 7)]
        passes, tests = [("racks", "here", 1, stays)], [("aaaa", 0, "bad")]
        batches = [("aaaa", 2, passes)]
        self.assertEqual(suspects(batches, tests), [("here", 0, None, 9, 5)])
        tests.append(("aaaa", 1, "good"))
        self.assertEqual(suspects(batches, tests), [("here", 0, 6, 6, 5), ("here", 8, None, 9, 8)])
        stays[1] = (0, 5)
        self.assertEqual(suspects(batches, tests), [("here", 6, None, 9, 6)])
        passes[0] = ("line", "there", 3, 1, 1)
        self.assertEqual(suspects(batches, tests), [("there", 0, 3, 3, 3)])
        batches.insert(0, ("bbbb", 1, [("line", "aa", 0, 0, 1)]))
        tests.append(("bbbb", 0, "bad"))
        self.assertEqual(suspects(batches, tests), [])
        tests[0] = ("bbbb", 0, "bad")
        self.assertEqual(suspects(batches, tests), [("aa", 0, None, 0, 0)])
        passes.clear()
        self.assertEqual(suspects(batches, tests), [("aa", 0, None, 0, 0)])


if __name__ == "__main__":
    unittest.main()

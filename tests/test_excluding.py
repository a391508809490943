"""[10] that no fault can have been, shown by tests, and what takes it for shown."""

import itertools
import random
import unittest

from tests.helper import (
    BEYOND, BIG, JUNK, are_rising_numbers, faults_tried, holds_to_point_two, mangled, nested, places_in, small_case,
    spans_between, subsets, tupled, window_of)
from tinrecall.excludecheck import shows_none
from tinrecall.excluding import none_shown
from tinrecall.suspects import suspects

POTS = ("aaaa", 8, [("racks", "pots", 1, [(5, 9), (5, 6), (8, 9), (7, 7), (6, 8), (0, 4), (20, 30), (10, 19)])])
BELT = ("bbbb", 3, [("line", "belt", 4, 1, 1)])
BARE = ("cccc", 2, [])
ALL = [BELT, BARE, POTS]
BAD0, BAD6 = ("aaaa", 0, "bad"), ("aaaa", 6, "bad")
GOOD0, GOOD3, GOOD7 = ("aaaa", 0, "good"), ("aaaa", 3, "good"), ("aaaa", 7, "good")
FAR = ("cccc", 0, "good")


def is_shown_at(batches, tests, place, triple):
    """Whether a thing shows, by the words of [10], that no fault was at a place, all small minutes gone through."""
    if type(triple) is not tuple or len(triple) != 3 or type(triple[0]) is not str or triple[0] != place:
        return False
    _, bad, good = triple
    for numbers, word in ((bad, "bad"), (good, "good")):
        if not are_rising_numbers(numbers) or any(number >= len(tests) for number in numbers):
            return False
        if any(tests[number][2] != word for number in numbers):
            return False
    met = [window_of(batches, place, tests[number]) for number in bad]
    if met == [None]:
        return len(good) == 0
    if len(met) not in (1, 2) or None in met:
        return False
    return spans_between(met, [window_of(batches, place, tests[number]) for number in good], BEYOND) == []


def is_shown(batches, tests, told):
    """Whether anything is a list that shows, by the words of [10], that no fault was."""
    places = places_in(batches)
    if type(told) not in (list, tuple) or len(told) != len(places):
        return False
    return all(is_shown_at(batches, tests, place, triple) for place, triple in zip(places, told))


def cases_shown(seed, many):
    """So many triples (batches, tests, told) in which no fault can have been."""
    rng = random.Random(seed)
    found = []
    while len(found) < many:
        batches, tests = small_case(rng, 7)
        told = none_shown(batches, tests)
        if told:
            found.append((batches, tests, told))
    return found


class NoneShownTest(unittest.TestCase):
    def test_told(self):
        cases = [
            # None just where some fault can have been.
            ([POTS], [BAD0], None),
            ([POTS], [BAD0, GOOD3], None),
            (ALL, [BAD0, BAD6, ("bbbb", 1, "good"), FAR], None),
            # No pass at all.
            ([BARE], [("cccc", 0, "bad")], []),
            ([BARE], [("cccc", 0, "good"), ("cccc", 1, "bad"), ("cccc", 0, "bad")], []),
            # A bad tin without a window.
            (ALL, [("cccc", 1, "bad")], [("belt", [0], []), ("pots", [0], [])]),
            (ALL, [GOOD3, ("cccc", 1, "bad")], [("belt", [1], []), ("pots", [1], [])]),
            (ALL, [BAD0, ("bbbb", 2, "bad"), ("bbbb", 0, "good")], [("belt", [0], []), ("pots", [1], [])]),
            # One bad one, alone with good ones that have a window there.
            ([POTS], [BAD0, GOOD0], [("pots", [0], [1])]),
            ([POTS], [("aaaa", 1, "good"), BAD0, ("aaaa", 2, "good"), GOOD3], [("pots", [1], [0, 2, 3])]),
            # Two bad ones.
            ([POTS], [GOOD7, BAD0, BAD6], [("pots", [1, 2], [0])]),
            ([POTS], [BAD6, GOOD7, BAD0], [("pots", [0, 2], [1])]),
        ]
        for batches, tests, told in cases:
            with self.subTest((batches, tests)):
                self.assertEqual(holds_to_point_two(self, none_shown, batches, tests), told)
                self.assertIs(shows_none(batches, tests, told), told is not None)

    def test_two_bad_ones_rise_wherever_they_stand(self):
        # Both bad tins at each two places of 24 tests, the one that ends first ahead of the other one or behind it.
        for one, other in itertools.permutations(range(24), 2):
            tests = [GOOD7] * 24
            tests[one], tests[other] = BAD0, BAD6
            told = none_shown([POTS], tests)
            self.assertEqual([row[:2] for row in told], [("pots", sorted([one, other]))])
            self.assertIs(shows_none([POTS], tests, told), True)

    def test_good_tins_without_a_window_among_the_tests(self):
        tests = [FAR, BAD6, ("bbbb", 0, "good"), GOOD7, BAD0, FAR]
        told = holds_to_point_two(self, none_shown, ALL, tests)
        self.assertEqual([row[0] for row in told], ["belt", "pots"])
        self.assertIn(told[0][1:], [([1], []), ([4], [])])
        self.assertEqual(told[1][1], [1, 4])
        self.assertIn(3, told[1][2])
        self.assertTrue(is_shown(ALL, tests, told))

    def test_against_all_faults_gone_through(self):
        rng = random.Random(12)
        kinds = {}
        for _ in range(800):
            batches, tests = small_case(rng, 7)
            told = none_shown(batches, tests)
            self.assertEqual(told is None, bool(faults_tried(batches, tests)))
            self.assertEqual(told is None, bool(suspects(batches, tests)))
            if told is None:
                self.assertIs(shows_none(batches, tests, told), False)
                continue
            self.assertEqual([row[0] for row in told], places_in(batches))
            self.assertTrue(is_shown(batches, tests, told), (batches, tests, told))
            self.assertTrue(all(type(part) is list for row in told for part in row[1:]))
            self.assertIs(shows_none(batches, tests, told), True)
            self.assertIs(shows_none(batches, tests, tupled(told)), True)
            for place, bad, good in told:
                kind = (window_of(batches, place, tests[bad[0]]) is None, len(bad))
                kinds[kind] = kinds.get(kind, 0) + 1
        self.assertEqual(sorted(kinds), [(False, 1), (False, 2), (True, 1)])

    def test_great_numbers(self):
        racked = ("racks", "pots", BIG, [(BIG, 5 * BIG), (3 * BIG, 9 * BIG), (2 * BIG, 4 * BIG)])
        batches = [("aaaa", 3 * BIG, [racked, ("line", "belt", BIG, 1, BIG)])]
        tests = [("aaaa", BIG - 1, "bad"), ("aaaa", 2 * BIG - 1, "bad"), ("aaaa", BIG, "good")]
        self.assertEqual(none_shown(batches, tests[:2]), None)
        told = holds_to_point_two(self, none_shown, batches, tests)
        self.assertEqual(told[0][0], "belt")
        self.assertEqual(told[1], ("pots", [0, 1], [2]))
        self.assertIs(shows_none(batches, tests, told), True)
        self.assertIs(shows_none(batches, tests, [told[0], ("pots", [1], [2])]), True)
        self.assertIs(shows_none(batches, tests, [told[0], ("pots", [0], [2])]), False)

    def test_twenty_four_tests(self):
        stays = [[(BIG * i, BIG * i + k) for i in range(12)] for k in range(12)]
        passes = [[("racks", "p" + sign, 1, stays[k]) for sign in "abcdef"] for k in range(12)]
        batches = [("ab" + str(10 + k), 12, passes[k]) for k in range(12)]
        tests = [("ab" + str(10 + k), 11 - k, "bad") for k in range(12)]
        self.assertIsNone(none_shown(batches, tests))
        tests += [("ab" + str(10 + k), k, "good") for k in range(12)]
        told = holds_to_point_two(self, none_shown, batches, tests)
        self.assertEqual([row[:2] for row in told], [("p" + sign, [0, 11]) for sign in "abcdef"])
        self.assertIs(holds_to_point_two(self, shows_none, batches, tests, told), True)

    def test_changed_lists_are_answered_as_they_are_then(self):
        tests, stays = [("aaaa", 0, "bad")], [(5, 9), (5, 9)]
        batches = [("aaaa", 2, [("racks", "pots", 1, stays)])]
        bad, good = [0], [1]
        told = [("pots", bad, good)]
        self.assertIsNone(none_shown(batches, tests))
        self.assertIs(shows_none(batches, tests, told), False)
        tests.append(("aaaa", 1, "good"))
        self.assertEqual(none_shown(batches, tests), told)
        self.assertIs(shows_none(batches, tests, told), True)
        stays[1] = (6, 9)
        self.assertIsNone(none_shown(batches, tests))
        self.assertIs(shows_none(batches, tests, told), False)
        tests[1] = ("aaaa", 0, "good")
        self.assertIs(shows_none(batches, tests, told), True)
        good.clear()
        self.assertIs(shows_none(batches, tests, told), False)
        batches[0] = ("aaaa", 2, [])
        self.assertIs(shows_none(batches, tests, told), False)
        told.clear()
        self.assertIs(shows_none(batches, tests, told), True)


class ShowsNoneTest(unittest.TestCase):
    def assert_as_the_words(self, batches, tests, told):
        self.assertIs(shows_none(batches, tests, told), is_shown(batches, tests, told), (batches, tests, told))

    def test_told(self):
        tests = [BAD0, GOOD7, BAD6, GOOD0, FAR, ("bbbb", 0, "good"), BAD0, ("cccc", 1, "bad")]
        cases = [
            ([2], [], False), ([0], [], False), ([0], [3], True), ([6], [3], True), ([0, 6], [3], True),
            ([0], [1, 3], True), ([0], [3, 4], True), ([0], [3, 4, 5], True), ([0], [1, 3, 4, 5], True),
            ([0, 2], [1], True), ([2, 6], [1], True), ([0, 2], [1, 3], True), ([0, 2], [3], True), ([2], [3], False),
            ([2], [1, 3, 4, 5], False), ([0, 2], [4, 5], False), ([0, 2], [], False), ([0], [1], False),
            # The bad tin without a window stands alone.
            ([7], [], True), ([7], [4], False), ([7], [3], False), ([0, 7], [], False), ([0, 7], [3], False),
            ([2, 7], [], False), ([], [], False), ([], [1, 3, 4, 5], False),
            # Three, though they would show it.
            ([0, 2, 6], [1, 3], False), ([0, 2, 6], [1], False), ([0, 2, 7], [1], False),
            # Not rising, twice, beyond the tests, below 0, good ones for bad ones.
            ([2, 0], [1], False), ([0, 0], [3], False), ([0], [3, 3], False), ([0], [3, 1], False), ([8], [], False),
            ([0], [3, 8], False), ([0], [3, BIG], False), ([BIG], [], False), ([-1], [], False), ([0], [-5, 3], False),
            ([-2], [3], False), ([0], [-5], False), ([3], [0], False), ([0, 1], [3], False), ([0], [3, 6], False),
            ([0], [0, 3], False), ([3], [], False), ([0], [2, 3], False), ([4], [], False), ([5], [], False),
            # True and False for numbers, other kinds.
            ([False], [3], False), ([0, True], [3], False), ([0], [True, 3], False), (0, [3], False), ([0], 3, False),
            (None, [3], False), ([0], None, False), ("0", [3], False), ([0], "3", False), (["0"], [3], False),
            ([0], ["3"], False), ([0], [None, 3], False), ([[0]], [3], False), ([0], [[3]], False),
            ([0], [(3,)], False), ("", [3], False), ([7], "", False), ([7], None, False), ([7], False, False),
            ([7], (), True),
            ((0,), (3,), True), ((0, 2), [1], True), ((7,), [], True),
        ]
        for bad, good, right in cases:
            with self.subTest((bad, good)):
                told = [("belt", [0], []), ("pots", bad, good)]
                self.assertIs(shows_none(ALL, tests, told), right)
                self.assertIs(is_shown(ALL, tests, told), right)

    def test_places(self):
        tests = [BAD0, GOOD0]
        belt, pots = ("belt", [0], []), ("pots", [0], [1])
        cases = [
            ([belt, pots], True), ((belt, pots), True), ([tupled(belt), pots], True), ([pots, belt], False),
            ([belt], False), ([pots], False), ([], False), ((), False), ([belt, belt, pots], False),
            ([belt, pots, pots], False), ([belt, belt], False), ([belt, pots, ("zz", [0], [])], False),
            ([("aa", [0], []), belt, pots], False), ([belt, ("zz", [0], [])], False), ([("", [0], []), pots], False),
            ([("pots", [0], []), pots], False), ([belt, ("belt", [0], [])], False), ([list(belt), pots], False),
            ([belt, list(pots)], False), ([(*belt, []), pots], False), ([belt[:2], pots], False), (None, False),
            ([(None, [0], []), pots], False), ([(0, [0], []), pots], False), ([(["belt"], [0], []), pots], False),
            ([("Belt", [0], []), pots], False), ([("belt", [], [0]), pots], False), ([belt, None], False),
            ([belt, "pots"], False), ("belt", False), (True, False), (2, False), ({}, False),
        ]
        for told, right in cases:
            with self.subTest(told):
                self.assertIs(shows_none(ALL, tests, told), right)

    def test_no_place(self):
        for told, right in [([], True), ((), True), ([()], False), ([("pots", [0], [])], False), (None, False),
                            ("", False), (0, False), (False, False), ([[]], False), (True, False)]:
            self.assertIs(shows_none([BARE], [("cccc", 0, "bad")], told), right, told)

    def test_all_choices_of_tests(self):
        rights = 0
        for batches, tests, told in cases_shown(13, 60):
            if len(tests) > 5:
                continue
            for at, bad, good in itertools.product(range(len(told)), subsets(len(tests)), subsets(len(tests))):
                other = told[:at] + [(told[at][0], bad, good)] + told[at + 1:]
                self.assert_as_the_words(batches, tests, other)
                rights += shows_none(batches, tests, other)
        self.assertGreater(rights, 300)

    def test_nothing_is_shown_where_a_fault_can_have_been(self):
        rng = random.Random(14)
        for _ in range(60):
            batches, tests = small_case(rng, 4)
            if suspects(batches, tests) and len(places_in(batches)) == 1:
                for bad, good in itertools.product(subsets(len(tests)), subsets(len(tests))):
                    self.assertIs(shows_none(batches, tests, [(places_in(batches)[0], bad, good)]), False)

    def test_things_changed_in_small_ways(self):
        for batches, tests, told in cases_shown(15, 25):
            for thing in itertools.chain(mangled(told), mangled(tupled(told))):
                self.assert_as_the_words(batches, tests, thing)

    def test_things_nested_deep(self):
        tests = [BAD0, GOOD0]
        right = ("pots", [0], [1])
        for kind in (list, tuple):
            for thing in [*JUNK, right, [right], None]:
                for deep in range(9):
                    self.assert_as_the_words([POTS], tests, nested(thing, deep, kind))
                    self.assert_as_the_words([POTS], tests, [nested(thing, deep, kind)])
            for deep in range(9):
                self.assert_as_the_words([POTS], tests, [("pots", [0], nested(1, deep, kind))])
                self.assert_as_the_words([POTS], tests, [("pots", nested(0, deep, kind), [1])])
                self.assert_as_the_words([POTS], tests, [(nested("pots", deep, kind), [0], [1])])

    def test_point_two(self):
        tests = [BAD0, GOOD0]
        told = [("pots", [0], [1])]
        self.assertIs(holds_to_point_two(self, shows_none, [POTS], tests, told), True)
        self.assertIs(holds_to_point_two(self, shows_none, [POTS], tests, [("pots", [0], [])]), False)


if __name__ == "__main__":
    unittest.main()

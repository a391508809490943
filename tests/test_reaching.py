"""[10] which tins faults that can have been reach, and which tin to test next."""

import itertools
import random
import unittest

from tests.helper import (
    BIG, faults_tried, holds_to_point_two, is_marked, members, meets, small_case, stretches_of, window_of)
from tinrecall.packings import cases_all, cases_with
from tinrecall.suspects import can_reach, must_reach, next_test

ONE = ("aaaa", 6, [("racks", "cooker", 2, [(10, 20), (15, 30), (5, 9)]), ("line", "filler", 0, 1, 1)])
TWO = ("bbbb", 5, [("racks", "cooker", 1, [(12, 13), (18, 25), (0, 0), (21, 40), (0, 60)])])
BARE = ("cccc", 3, [])
ALL = [TWO, BARE, ONE]


def tins_tried(batches, tests, all_or_any):
    """The pairs (mark, set) of the tins that all, or any, of the faults that can have been reach, tin by tin."""
    faults = faults_tried(batches, tests)
    told = []
    for mark, tins, _ in batches:
        met = []
        for tin in range(tins):
            at = {place: window_of(batches, place, (mark, tin)) for place, _, _ in faults}
            if faults and all_or_any(meets(at[place], first, last) for place, first, last in faults):
                met.append(tin)
        if met:
            told.append((mark, stretches_of(met)))
    return told


def count_in(told):
    return sum(len(members(some)) for _, some in told)


def several_rows(rng):
    """A pair (batches, tests) by which a fault can have been in several rows of minutes."""
    stays = [(0, 20), (6, 6), (13, 13)]
    stays += [tuple(sorted((rng.randint(0, 20), rng.randint(0, 20)))) for _ in range(7)]
    return [("abcd", 10, [("racks", "pots", 1, stays)])], [("abcd", 0, "bad"), ("abcd", 1, "good"), ("abcd", 2, "good")]


class ReachTest(unittest.TestCase):
    def assert_told(self, batches, tests, can, must):
        with self.subTest(tests):
            told = holds_to_point_two(self, can_reach, batches, tests)
            self.assertTrue(is_marked(told))
            self.assertEqual(told, can)
            told = holds_to_point_two(self, must_reach, batches, tests)
            self.assertTrue(is_marked(told))
            self.assertEqual(told, must)

    def test_told(self):
        every = [("bbbb", [(0, 4)]), ("aaaa", [(0, 5)])]
        cases = [
            # Without end: all that ever come to a place that can have been faulty.
            ([("aaaa", 0, "bad")], every, [("aaaa", [(0, 0)])]),
            ([("bbbb", 1, "bad")], every, [("bbbb", [(1, 1), (4, 4)]), ("aaaa", [(2, 3)])]),
            # From minute 12 or 13 on till 21 or later.
            ([("bbbb", 0, "bad"), ("bbbb", 3, "bad")], every, [("bbbb", [(0, 1), (3, 4)]), ("aaaa", [(0, 3)])]),
            # At minutes up to 14 in the cooker, at 0 or 1 in the filler.
            ([("aaaa", 0, "bad"), ("aaaa", 2, "good")],
             [("bbbb", [(0, 0), (2, 2), (4, 4)]), ("aaaa", [(0, 1), (4, 5)])], [("aaaa", [(0, 0)])]),
            ([("aaaa", 0, "bad"), ("aaaa", 1, "good")], [("aaaa", [(0, 0)])], [("aaaa", [(0, 0)])]),
            ([("aaaa", 0, "bad"), ("bbbb", 4, "good")], [("aaaa", [(0, 5)])], [("aaaa", [(0, 0)])]),
            ([("bbbb", 4, "bad"), ("aaaa", 0, "good"), ("bbbb", 2, "good"), ("aaaa", 2, "good"), ("aaaa", 5, "good")],
             [("bbbb", [(3, 4)])], [("bbbb", [(4, 4)])]),
            # No fault can have been.
            ([("aaaa", 0, "bad"), ("aaaa", 0, "good")], [], []),
            ([("cccc", 0, "bad")], [], []),
            ([("aaaa", 0, "bad"), ("cccc", 0, "bad")], [], []),
        ]
        for tests, can, must in cases:
            self.assert_told(ALL, tests, can, must)
        self.assert_told([BARE], [("cccc", 0, "bad")], [], [])

    def test_faults_at_unlike_places(self):
        batch = ("aaaa", 4, [("racks", "pots", 2, [(5, 5), (9, 9)]), ("line", "belt", 3, 0, 1)])
        other = ("bbbb", 2, [("line", "belt", 3, 1, 1)])
        self.assert_told([other, batch], [("aaaa", 1, "bad")],
                         [("bbbb", [(0, 1)]), ("aaaa", [(0, 3)])], [("aaaa", [(0, 1)])])
        self.assert_told([other, batch], [("aaaa", 1, "bad"), ("aaaa", 3, "bad")],
                         [("bbbb", [(0, 1)]), ("aaaa", [(0, 3)])], [("aaaa", [(0, 3)])])
        self.assert_told([other, batch], [("aaaa", 1, "bad"), ("bbbb", 1, "bad")],
                         [("bbbb", [(0, 1)]), ("aaaa", [(0, 3)])], [("bbbb", [(0, 1)]), ("aaaa", [(0, 3)])])

    def test_sets_of_several_stretches(self):
        batch = ("aaaa", 5, [("racks", "pots", 1, [(0, 9), (20, 29), (5, 30), (40, 41), (8, 8)])])
        self.assert_told([batch], [("aaaa", 0, "bad"), ("aaaa", 1, "good")],
                         [("aaaa", [(0, 0), (2, 2), (4, 4)])], [("aaaa", [(0, 0)])])
        self.assert_told([batch], [("aaaa", 0, "bad"), ("aaaa", 2, "bad"), ("aaaa", 1, "good"), ("aaaa", 4, "bad")],
                         [("aaaa", [(0, 0), (2, 2), (4, 4)])], [("aaaa", [(0, 0), (2, 2), (4, 4)])])

    def test_against_each_tin_and_all_faults(self):
        rng = random.Random(10)
        some = 0
        for _ in range(800):
            batches, tests = small_case(rng)
            can, must = can_reach(batches, tests), must_reach(batches, tests)
            self.assertTrue(is_marked(can) and is_marked(must))
            self.assertEqual(can, tins_tried(batches, tests, any), (batches, tests))
            self.assertEqual(must, tins_tried(batches, tests, all), (batches, tests))
            some += 0 < count_in(must) < count_in(can)
            marks = [batch[0] for batch in batches]
            self.assertEqual([row[0] for row in can], [mark for mark in marks if mark in dict(can)])
        self.assertGreater(some, 100)

    def test_in_the_order_of_batches(self):
        tests = [("bbbb", 0, "bad"), ("bbbb", 3, "bad")]
        for order in itertools.permutations(ALL):
            marks = [batch[0] for batch in order if batch[0] != "cccc"]
            for function in (can_reach, must_reach):
                told = function(list(order), tests)
                self.assertEqual([row[0] for row in told], marks)
                self.assertEqual(sorted(told), sorted(function(ALL, tests)))

    def test_the_order_of_tests_and_one_twice_change_nothing(self):
        tests = [("aaaa", 0, "bad"), ("bbbb", 4, "bad"), ("bbbb", 0, "good"), ("aaaa", 4, "good"), ("cccc", 1, "good")]
        can, must = can_reach(ALL, tests), must_reach(ALL, tests)
        self.assertEqual(can, [("bbbb", [(1, 1), (3, 4)]), ("aaaa", [(0, 3)])])
        self.assertEqual(must, [("bbbb", [(4, 4)]), ("aaaa", [(0, 1)])])
        for order in itertools.permutations(tests):
            for some in ([*order], [*order, order[0]]):
                self.assertEqual((can_reach(ALL, some), must_reach(ALL, some)), (can, must))

    def test_great_batches(self):
        line = ("line", "belt", BIG, 1, 10)
        racked = ("racks", "pots", 10 * BIG, [(0, 5 * BIG), (BIG, 2 * BIG), (7 * BIG, 9 * BIG)])
        batch = ("aaaa", 25 * BIG, [racked, line])
        other = ("bbbb", 100 * BIG, [line])
        self.assert_told([other, batch], [("aaaa", 3, "bad")],
                         [("bbbb", [(0, 100 * BIG - 1)]), ("aaaa", [(0, 25 * BIG - 1)])], [("aaaa", [(0, 9)])])
        self.assert_told([other, batch], [("bbbb", 5, "bad"), ("bbbb", 3 * BIG, "bad")],
                         [("bbbb", [(0, 100 * BIG - 1)]), ("aaaa", [(0, 25 * BIG - 1)])],
                         [("bbbb", [(0, 3 * BIG + 9)]), ("aaaa", [(0, 3 * BIG + 9)])])
        self.assert_told([other, batch], [("bbbb", 5, "good"), ("aaaa", 3 * BIG, "bad"), ("bbbb", 7 * BIG + 7, "good"),
                                          ("aaaa", 24 * BIG, "good"), ("aaaa", 10 * BIG, "good")],
                         [("bbbb", [(10, 7 * BIG - 1)]), ("aaaa", [(0, 10 * BIG - 1)])],
                         [("aaaa", [(3 * BIG, 3 * BIG + 9)])])

    def test_told_things_handed_in_again(self):
        tests = [("aaaa", 0, "bad"), ("aaaa", 2, "good")]
        packing = ("north", 2, [("aaaa", 0, 5), ("bbbb", 1, 4)])
        self.assertEqual(cases_with(packing, can_reach(ALL, tests)), [(0, 0), (2, 4)])
        self.assertEqual(cases_all(packing, can_reach(ALL, tests)), [(0, 0), (2, 2)])
        self.assertEqual(cases_with(packing, must_reach(ALL, tests)), [(0, 0)])
        mark, tin, _ = next_test(ALL, tests, [("bbbb", 4)])
        self.assertEqual(can_reach(ALL, [*tests, (mark, tin, "good")]), [("aaaa", [(0, 1)])])

    def test_changed_lists_are_answered_as_they_are_then(self):
        stays, tests = [(5, 9), (7, 8)], [("aaaa", 0, "bad")]
        batches = [("aaaa", 2, [("racks", "here", 1, stays)])]

        def asked():
            return [can_reach(batches, tests), must_reach(batches, tests), next_test(batches, tests, [("aaaa", 1)])]

        whole, half = [("aaaa", [(0, 1)])], [("aaaa", [(0, 0)])]
        self.assertEqual(asked(), [whole, half, ("aaaa", 1, 2)])
        tests.append(("aaaa", 1, "bad"))
        self.assertEqual(asked(), [whole, whole, ("aaaa", 1, 2)])
        tests[1] = ("aaaa", 1, "good")
        self.assertEqual(asked(), [half, half, ("aaaa", 1, 1)])
        stays[1] = (0, 10)
        self.assertEqual(asked(), [[], [], ("aaaa", 1, 0)])
        batches[0] = ("aaaa", 2, [("racks", "here", 2, [(3, 4)])])
        tests.pop()
        self.assertEqual(asked(), [whole, whole, ("aaaa", 1, 2)])


class NextTestTest(unittest.TestCase):
    def test_told(self):
        belt = ("aaaa", 10, [("line", "belt", 0, 1, 1)])
        tests = [("aaaa", 0, "bad"), ("aaaa", 9, "good")]
        cases = [
            ([belt], tests, [("aaaa", 4)], ("aaaa", 4, 9)),
            ([belt], tests, [("aaaa", 1)], ("aaaa", 1, 9)),
            # Tested already: told otherwise no fault can have been.
            ([belt], tests, [("aaaa", 0)], ("aaaa", 0, 9)),
            ([belt], tests, [("aaaa", 9), ("aaaa", 0)], ("aaaa", 9, 9)),
            ([belt], tests, [("aaaa", 7), ("aaaa", 3), ("aaaa", 7)], ("aaaa", 7, 9)),
            # TWO's tin 4 bad leaves all, good leaves the filler alone; ONE's tin 1 is with tin 0 in the cooker.
            (ALL, [("aaaa", 0, "bad")], [("bbbb", 4)], ("bbbb", 4, 11)),
            (ALL, [("aaaa", 0, "bad")], [("cccc", 2)], ("cccc", 2, 11)),
            (ALL, [("aaaa", 0, "bad"), ("bbbb", 4, "good")], [("aaaa", 5), ("bbbb", 0), ("bbbb", 0)], ("aaaa", 5, 6)),
            (ALL, [("aaaa", 0, "bad"), ("bbbb", 4, "good")], [("cccc", 1), ("aaaa", 5), ("bbbb", 0)], ("cccc", 1, 6)),
            (ALL, [("cccc", 0, "bad")], [("bbbb", 1), ("aaaa", 1)], ("bbbb", 1, 0)),
        ]
        for batches, tests, choices, told in cases:
            with self.subTest((tests, choices)):
                self.assertEqual(holds_to_point_two(self, next_test, batches, tests, choices), told)

    def test_the_first_of_least_most(self):
        # Faults can have been in the rows from 0 to 5, from 7 to 12, and from 14 on.
        stays = [(0, 20), (6, 6), (13, 13), (2, 3), (4, 4), (8, 8), (9, 11), (15, 16), (2, 4), (2, 4)]
        batches = [("aaaa", 10, [("racks", "pots", 1, stays)])]
        tests = [("aaaa", 0, "bad"), ("aaaa", 1, "good"), ("aaaa", 2, "good")]
        mosts = [8, 8, 8, 7, 7, 7, 7, 7, 5, 5]
        for many in (1, 2, 3):
            for tins in itertools.product(range(10), repeat=many):
                least = min(mosts[tin] for tin in tins)
                first = next(tin for tin in tins if mosts[tin] == least)
                told = next_test(batches, tests, [("aaaa", tin) for tin in tins])
                self.assertEqual(told, ("aaaa", first, least), tins)

    def test_against_can_reach_with_each_choice(self):
        rng = random.Random(11)
        unlike = 0
        for k in range(200):
            batches, tests = small_case(rng) if k % 2 else several_rows(rng)
            tins = [(mark, tin) for mark, many, _ in batches for tin in range(many)]
            choices = rng.choices(tins, k=rng.randint(1, 6))
            mosts = [max(count_in(tins_tried(batches, [*tests, (*choice, word)], any)) for word in ("bad", "good"))
                     for choice in choices]
            best = mosts.index(min(mosts))
            told = next_test(batches, tests, choices)
            self.assertEqual(told, (*choices[best], mosts[best]), (batches, tests, choices))
            unlike += best > 0
        self.assertGreater(unlike, 20)

    def test_great_numbers(self):
        racked = ("racks", "pots", 2 * BIG, [(BIG, BIG * BIG), (2 * BIG, 3 * BIG), (5 * BIG, 5 * BIG)])
        batches = [("aaaa", 5 * BIG, [racked])]
        tests = [("aaaa", 0, "bad")]
        choices = [("aaaa", 5 * BIG - 1), ("aaaa", 2 * BIG), ("aaaa", 1)]
        self.assertEqual(holds_to_point_two(self, next_test, batches, tests, choices), ("aaaa", 5 * BIG - 1, 5 * BIG))
        tests.append(("aaaa", 3 * BIG, "good"))
        self.assertEqual(next_test(batches, tests, choices), ("aaaa", 5 * BIG - 1, 3 * BIG))
        self.assertEqual(next_test(batches, tests, choices[1:]), ("aaaa", 2 * BIG, 3 * BIG))

    def test_twenty_four_choices(self):
        batches = [("ab" + str(10 + k), 12, [("racks", "pots", 1, [(9 * i, 9 * i + 5) for i in range(12)])])
                   for k in range(12)]
        tests = [("ab10", 3, "bad")] * 12 + [("ab21", 9, "good")] * 12
        choices = [("ab" + str(10 + k // 2), 5 + k % 2) for k in range(24)]
        self.assertEqual(next_test(batches, tests, choices), ("ab10", 5, 9 * 12))


if __name__ == "__main__":
    unittest.main()

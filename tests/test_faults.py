"""[7] which tins faults reach."""

import itertools
import unittest

from tests.helper import BIG, holds_to_point_two, is_marked, rack_of, stretches_of
from tinrecall.batches import window
from tinrecall.faults import reached

ONE = ("ab12", 11, [("line", "filler", 10, 2, 3), ("racks", "cooker", 4, [(40, 49), (0, 9), (9, 20)])])
TWO = ("zz99", 6, [("racks", "cooker", 2, [(5, 12), (45, 60), (9, 9)]), ("line", "seamer", 0, 3, 1)])
BARE = ("aaaa", 5, [])
BATCHES = [TWO, BARE, ONE]


def is_reached(batch, fault, tin):
    place, first, last, racks = fault
    told = window(batch, place, tin)
    if told is None or told[1] < first or last < told[0]:
        return False
    return len(racks) == 0 or rack_of(batch, place, tin) in racks


def reached_one_by_one(batches, faults):
    told = []
    for batch in batches:
        tins = [tin for tin in range(batch[1]) if any(is_reached(batch, fault, tin) for fault in faults)]
        if tins:
            told.append((batch[0], stretches_of(tins)))
    return told


class ReachedTest(unittest.TestCase):
    def test_told(self):
        cases = [
            ([], []),
            ([("nowhere", 0, BIG, [])], []),
            ([("nowhere", 0, BIG, [0, 1])], []),
            ([("filler", 10, 11, [])], [("ab12", [(0, 2)])]),
            ([("filler", 0, 9, [])], []),
            ([("filler", 0, BIG, [0])], []),
            ([("filler", 0, BIG, [0, 1, 2, 3])], []),
            ([("cooker", 9, 9, [])], [("zz99", [(0, 1), (4, 5)]), ("ab12", [(4, 10)])]),
            ([("cooker", 9, 9, [0])], [("zz99", [(0, 1)])]),
            ([("cooker", 9, 9, [2])], [("zz99", [(4, 5)]), ("ab12", [(8, 10)])]),
            ([("cooker", 9, 9, [2, 0, 2, 1, 0])], [("zz99", [(0, 1), (4, 5)]), ("ab12", [(4, 10)])]),
            ([("cooker", 9, 9, [3])], []),
            ([("cooker", 0, BIG, [3, 99, BIG])], []),
            ([("cooker", 0, BIG, [BIG, 1])], [("zz99", [(2, 3)]), ("ab12", [(4, 7)])]),
            ([("cooker", 45, 49, [0]), ("filler", 13, 13, [])], [("ab12", [(0, 3), (5, 5)])]),
            ([("cooker", 45, 49, [0]), ("filler", 12, 12, [])], [("ab12", [(0, 4)])]),
            ([("seamer", 3, 3, []), ("filler", 10, 10, [])], [("zz99", [(1, 1)]), ("ab12", [(0, 1)])]),
            ([("cooker", 0, BIG, []), ("filler", 0, BIG, [])], [("zz99", [(0, 5)]), ("ab12", [(0, 10)])]),
        ]
        for faults, told in cases:
            with self.subTest(faults):
                self.assertEqual(holds_to_point_two(self, reached, BATCHES, faults), told)

    def test_no_batches(self):
        self.assertEqual(holds_to_point_two(self, reached, [], [("filler", 0, 9, [])]), [])
        self.assertEqual(holds_to_point_two(self, reached, [], []), [])

    def test_in_the_order_of_batches(self):
        faults = [("cooker", 9, 9, []), ("seamer", 0, 0, [])]
        for order in itertools.permutations(BATCHES):
            told = reached(list(order), faults)
            self.assertEqual([row[0] for row in told], [batch[0] for batch in order if batch[0] != "aaaa"])
            self.assertEqual(sorted(told), sorted(reached(BATCHES, faults)))

    def test_the_order_of_faults_and_one_twice_change_nothing(self):
        faults = [("cooker", 9, 12, [2, 1]), ("seamer", 4, 9, []), ("filler", 15, 16, []), ("cooker", 50, 51, [])]
        told = reached(BATCHES, faults)
        self.assertEqual(told, reached_one_by_one(BATCHES, faults))
        for order in itertools.permutations(faults):
            self.assertEqual(reached(BATCHES, list(order)), told)
            self.assertEqual(reached(BATCHES, list(order) + [order[0]]), told)

    def test_against_each_tin(self):
        racks = [[], [0], [1], [2, 0], [0, 0, 1], [7], [3, 2, 1, 0]]
        spans = [(0, 8), (9, 9), (10, 10), (13, 44), (45, 61), (61, 99), (3, 12)]
        faults = [(place, *span, some) for place in ("filler", "cooker", "seamer", "nowhere")
                  for span in spans for some in racks]
        for k, fault in enumerate(faults):
            other = faults[(7 * k + 3) % len(faults)]
            for some in ([fault], [fault, other]):
                told = reached(BATCHES, some)
                self.assertTrue(is_marked(told))
                self.assertEqual(told, reached_one_by_one(BATCHES, some), some)

    def test_great_batches(self):
        line = ("line", "line", 0, 1, 10)
        racked = ("racks", "pots", BIG, [(5, 6), (100, 200), (6, 9)])
        batches = [("abcd", 2 * BIG + 5, [line, racked]), ("abce", BIG, [line])]
        cases = [
            ([("line", 3, 4, [])], [("abcd", [(30, 49)]), ("abce", [(30, 49)])]),
            ([("line", BIG // 10, BIG, [])], [("abcd", [(BIG, 2 * BIG + 4)])]),
            ([("pots", 6, 6, [])], [("abcd", [(0, BIG - 1), (2 * BIG, 2 * BIG + 4)])]),
            ([("pots", 6, 6, [2, 1])], [("abcd", [(2 * BIG, 2 * BIG + 4)])]),
            ([("pots", 6, 100, [1, 0, BIG])], [("abcd", [(0, 2 * BIG - 1)])]),
            ([("pots", 7, 8, []), ("line", 0, 0, [])],
             [("abcd", [(0, 9), (2 * BIG, 2 * BIG + 4)]), ("abce", [(0, 9)])]),
        ]
        for faults, told in cases:
            with self.subTest(faults):
                self.assertEqual(holds_to_point_two(self, reached, batches, faults), told)

    def test_twelve_of_all(self):
        batches = [("ab" + str(10 + k), 24, [("racks", "pots", 2, [(j, j) for j in range(12)])]) for k in range(12)]
        faults = [("pots", k, k + 3, list(range(11, -1, -1))) for k in range(0, 24, 2)]
        told = holds_to_point_two(self, reached, batches, faults)
        self.assertEqual(told, [(batch[0], [(0, 23)]) for batch in batches])

    def test_changed_lists_are_answered_as_they_are_then(self):
        racks, faults, passes = [1], [], [("racks", "pots", 2, [(0, 9), (0, 9)])]
        batches = [("abcd", 4, passes)]
        self.assertEqual(reached(batches, faults), [])
        faults.append(("pots", 0, 5, racks))
        self.assertEqual(reached(batches, faults), [("abcd", [(2, 3)])])
        racks[0] = 0
        self.assertEqual(reached(batches, faults), [("abcd", [(0, 1)])])
        racks.clear()
        self.assertEqual(reached(batches, faults), [("abcd", [(0, 3)])])
        passes[0] = ("line", "pots", 5, 1, 1)
        self.assertEqual(reached(batches, faults), [("abcd", [(0, 0)])])
        batches.append(("abce", 2, [("line", "pots", 4, 1, 1)]))
        self.assertEqual(reached(batches, faults), [("abcd", [(0, 0)]), ("abce", [(0, 1)])])


if __name__ == "__main__":
    unittest.main()

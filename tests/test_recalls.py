"""[17] what is called back, and what became of it."""

import itertools
import random
import unittest

from tests.helper import (
    BIG, NAMES, CaseByCase, holds_to_point_two, in_orders, is_marked, is_set, members, small_heap, stretches_of)
from tinrecall.faults import reached
from tinrecall.ladings import standing
from tinrecall.packings import cases_with
from tinrecall.recalls import call_of, lacking_by, recall
from tinrecall.ways import way_of

NORTH = ("north", 4, [("abcd", 0, 9), ("wxyz", 0, 3)])      # Cases: abcd 0..3, 4..7, 8..9 and wxyz 0..1, wxyz 2..3.
SOUTH = ("south", 2, [("wxyz", 4, 9)])
EMPTY = ("empty", 3, [])
PACKINGS = [SOUTH, EMPTY, NORTH]

HEAP = [
    (1, 1, ("pack", "pears", 10, "mill")), (1, 2, ("pack", "plums", 6, "mill")),
    (2, 3, ("lade", "mill", "east", "pears", 0, 3)), (3, 4, ("sell", "east", "pears", 3, 3)),
    (3, 5, ("back", "mill", "pears", 8, 8)), (4, 6, ("tell", "mill", "pears", [(4, 5), (9, 9)])),
    (5, 7, ("tell", "east", "plums", [(0, 1)])), (5, 8, ("lade", "mill", "east", "plums", 0, 1)),
    (9, 9, ("pack", "nuts", 4, "west")), (9, 10, ("pack", "pears", 99, "west")),
]


class CallOfTest(unittest.TestCase):
    def test_told(self):
        cases = [
            ([], []),
            ([("abcd", [(0, 0)])], [("north", [(0, 0)])]),
            ([("abcd", [(3, 4), (9, 9)])], [("north", [(0, 2)])]),
            ([("abcd", [(0, 1), (8, 8)])], [("north", [(0, 0), (2, 2)])]),
            ([("wxyz", [(3, 4)])], [("north", [(3, 3)]), ("south", [(0, 0)])]),
            ([("wxyz", [(5, 6)]), ("abcd", [(7, 7)])], [("north", [(1, 1)]), ("south", [(0, 1)])]),
            ([("wxyz", [(8, 9)])], [("south", [(2, 2)])]),
            # Marks and tins that no packing has.
            ([("none", [(0, BIG)])], []),
            ([("wxyz", [(10, BIG)]), ("abcd", [(10, 10)])], []),
            ([("none", [(0, 5)]), ("wxyz", [(9, BIG)]), ("abcd", [(20, 20)])], [("south", [(2, 2)])]),
            ([("abcd", []), ("wxyz", [])], []),
        ]
        for marked, told in cases:
            with self.subTest(marked):
                for order in itertools.permutations(PACKINGS):
                    self.assertEqual(holds_to_point_two(self, call_of, list(order), marked), told)
                self.assertEqual(call_of(PACKINGS, marked[::-1]), told)

    def test_no_packings(self):
        self.assertEqual(holds_to_point_two(self, call_of, [], [("abcd", [(0, 9)])]), [])
        self.assertEqual(holds_to_point_two(self, call_of, [], []), [])
        self.assertEqual(holds_to_point_two(self, call_of, [EMPTY], [("abcd", [(0, 9)])]), [])

    def test_rising_by_name(self):
        packings = [(name, 1, [("abcd", 0, 3)]) for name in ("zz", "b", "ab", "a", "abc")]
        told = call_of(packings, [("abcd", [(1, 1), (3, 9)])])
        self.assertEqual(told, [(name, [(1, 1), (3, 3)]) for name in ("a", "ab", "abc", "b", "zz")])
        self.assertTrue(is_marked(told))

    def test_against_each_packing(self):
        rng = random.Random(17)
        for _ in range(200):
            packings = []
            for name in rng.sample(["a", "b", "c", "d"], rng.randint(0, 4)):
                starts = [(rng.choice(["abcd", "wxyz", "mm00"]), rng.randint(0, 9)) for _ in range(rng.randint(0, 3))]
                parts = [(mark, first, first + rng.randint(0, 5)) for mark, first in starts]
                packings.append((name, rng.randint(1, 4), parts))
            marks = rng.sample(["abcd", "wxyz", "zz99"], 2)
            marked = [(mark, stretches_of(rng.sample(range(16), 3))) for mark in marks]
            every = sorted((packing[0], cases_with(packing, marked)) for packing in packings)
            self.assertEqual(call_of(packings, marked), [pair for pair in every if pair[1]])

    def test_great_numbers(self):
        packings = [("zz", BIG, [("abcd", 0, 9 * BIG)]), ("aa", 1, [("abcd", 10 * BIG, 20 * BIG)])]
        self.assertEqual(holds_to_point_two(self, call_of, packings, [("abcd", [(5 * BIG, 12 * BIG)])]),
                         [("aa", [(0, 2 * BIG)]), ("zz", [(5, 9)])])


class RecallTest(unittest.TestCase):
    def assert_told(self, heap, day, called, rows, sums):
        with self.subTest((day, called)):
            told = holds_to_point_two(self, recall, heap, day, called)
            self.assertIs(type(told), tuple)
            self.assertEqual(told, (rows, sums))
            self.assertEqual(recall(heap[::-1], day, called), told)

    def test_told(self):
        called = [("pears", [(0, 9)])]
        cases = [
            (0, [], [("pears", 10, 10, 0, 0, 0, 0)]),
            (1, [("mill", "pears", [(0, 9)])], [("pears", 10, 0, 10, 0, 0, 0)]),
            (2, [("east", "pears", [(0, 3)]), ("mill", "pears", [(4, 9)])], [("pears", 10, 0, 10, 0, 0, 0)]),
            (3, [("east", "pears", [(0, 2)]), ("mill", "pears", [(4, 7), (9, 9)])], [("pears", 10, 0, 8, 1, 1, 0)]),
            (4, [("east", "pears", [(0, 2)]), ("mill", "pears", [(4, 5), (9, 9)])], [("pears", 10, 0, 6, 1, 1, 2)]),
            (BIG, [("east", "pears", [(0, 2)]), ("mill", "pears", [(4, 5), (9, 9)])], [("pears", 10, 0, 6, 1, 1, 2)]),
        ]
        for day, rows, sums in cases:
            self.assert_told(HEAP, day, called, rows, sums)

    def test_just_the_called_cases(self):
        self.assert_told(HEAP, 5, [("pears", [(2, 4), (6, 6)])],
                         [("east", "pears", [(2, 2)]), ("mill", "pears", [(4, 4)])], [("pears", 4, 0, 2, 1, 0, 1)])
        self.assert_told(HEAP, 5, [("pears", [(3, 3)])], [], [("pears", 1, 0, 0, 1, 0, 0)])
        self.assert_told(HEAP, 5, [("pears", [(8, 8)])], [], [("pears", 1, 0, 0, 0, 1, 0)])
        self.assert_told(HEAP, 5, [("pears", [(6, 7)])], [], [("pears", 2, 0, 0, 0, 0, 2)])
        self.assert_told(HEAP, 5, [], [], [])
        self.assert_told([], 5, [], [], [])

    def test_rows_by_holder_then_name(self):
        called = [("nuts", [(0, 9)]), ("pears", [(0, 9)]), ("plums", [(0, 9)])]
        rows = [("east", "pears", [(0, 2)]), ("east", "plums", [(0, 1)]), ("mill", "pears", [(4, 5), (9, 9)]),
                ("mill", "plums", [(2, 5)]), ("west", "nuts", [(0, 3)])]
        sums = [("nuts", 10, 6, 4, 0, 0, 0), ("pears", 10, 0, 6, 1, 1, 2), ("plums", 10, 4, 6, 0, 0, 0)]
        self.assert_told(HEAP, 9, called, rows, sums)
        # Rows rise whatever the order of called; sums keep to it.
        for order in itertools.permutations(zip(called, sums)):
            self.assert_told(HEAP, 9, [pair for pair, _ in order], rows, [one for _, one in order])

    def test_unpacked(self):
        # Beyond the packed ones; behind the day; by an idle page; of a name that no page has.
        self.assert_told(HEAP, 9, [("pears", [(9, 20)])], [("mill", "pears", [(9, 9)])],
                         [("pears", 12, 11, 1, 0, 0, 0)])
        self.assert_told(HEAP, 9, [("pears", [(50, 60)])], [], [("pears", 11, 11, 0, 0, 0, 0)])
        self.assert_told(HEAP, 8, [("nuts", [(0, 2)])], [], [("nuts", 3, 3, 0, 0, 0, 0)])
        self.assert_told(HEAP, 9, [("nuts", [(0, 2)])], [("west", "nuts", [(0, 2)])], [("nuts", 3, 0, 3, 0, 0, 0)])
        self.assert_told(HEAP, 9, [("figs", [(0, 2), (5, 5)])], [], [("figs", 4, 4, 0, 0, 0, 0)])
        self.assert_told([(1, 1, ("sell", "mill", "pears", 0, 9))], 9, [("pears", [(0, 2)])], [],
                         [("pears", 3, 3, 0, 0, 0, 0)])

    def test_great_numbers(self):
        heap = [(BIG, 1, ("pack", "pears", 10 * BIG, "mill")), (BIG, 2, ("lade", "mill", "east", "pears", 0, BIG - 1)),
                (2 * BIG, 0, ("sell", "mill", "pears", 2 * BIG, 3 * BIG - 1)),
                (2 * BIG, 5, ("tell", "mill", "pears", [(BIG, 8 * BIG - 1)])),
                (3 * BIG, 6, ("back", "mill", "pears", 7 * BIG, 9 * BIG))]
        self.assert_told(heap, 9 * BIG, [("pears", [(BIG - 5, 20 * BIG - 1)])], [
            ("east", "pears", [(BIG - 5, BIG - 1)]), ("mill", "pears", [(BIG, 2 * BIG - 1), (3 * BIG, 7 * BIG - 1)])],
            [("pears", 19 * BIG + 5, 10 * BIG, 5 * BIG + 5, BIG, BIG, 2 * BIG)])
        self.assertEqual(lacking_by(heap, 9 * BIG, [("pears", [(9 * BIG, 20 * BIG)])]),
                         [(5, "pears", [(9 * BIG, 10 * BIG - 1)])])

    def test_against_way_of_and_standing(self):
        rng = random.Random(19)
        several = 0
        for _ in range(300):
            heap, day = small_heap(rng), rng.randint(1, 6)
            called = [(name, stretches_of(rng.sample(range(11), rng.randint(1, 11))))
                      for name in sorted(rng.sample([*NAMES, "nuts"], rng.randint(0, 3)))]
            rows, sums = recall(heap, day, called)
            lying = {}
            counted = []
            for name, cases in called:
                counts = dict.fromkeys(["unpacked", "lying", "sold", "back", "lacking"], 0)
                for case in members(cases):
                    way = way_of(heap, day, name, case)
                    last = way[-1][1] if way else "unpacked"
                    word = "lying" if last in ("packed", "laded", "found") else last
                    counts[word] += 1
                    if word == "lying":
                        lying.setdefault((way[-1][2], name), []).append(case)
                counted.append((name, len(members(cases)), *counts.values()))
            self.assertEqual(sums, counted, (heap, day, called))
            self.assertEqual(rows, [(*key, stretches_of(lying[key])) for key in sorted(lying)])
            several += len(rows) > len({row[1] for row in rows})
            for row in sums:
                self.assertEqual(row[1], sum(row[2:]))
            told = standing(heap, day)[0]
            every = [(name, [(0, 9)]) for name in NAMES]
            self.assertEqual(recall(heap, day, every)[0], told)
            for order in in_orders(rng, heap):
                self.assertEqual(recall(order, day, called), (rows, sums))
        self.assertGreater(several, 25)

    def test_told_things_handed_in_again(self):
        batch = ("abcd", 10, [("line", "filler", 0, 1, 1)])
        called = call_of(PACKINGS, reached([batch], [("filler", 2, 4, [])]))
        heap = [(1, 1, ("pack", "north", 4, "mill"))]
        self.assert_told(heap, 1, called, [("mill", "north", [(0, 1)])], [("north", 2, 0, 2, 0, 0, 0)])
        rows, _ = recall(heap, 1, called)
        self.assertEqual(recall(heap, 1, [(name, cases) for _, name, cases in rows])[0], rows)


class LackingByTest(unittest.TestCase):
    PACK = (0, 100, ("pack", "pears", 10, "mill"))

    def assert_told(self, heap, day, called, told):
        with self.subTest((heap, day, called)):
            self.assertEqual(holds_to_point_two(self, lacking_by, heap, day, called), told)
            self.assertEqual(lacking_by(heap[::-1], day, called), told)

    def test_the_page_by_which_a_case_lacks_still(self):
        heap = [self.PACK, (1, 9, ("tell", "mill", "pears", [(0, 4)])), (2, 8, ("tell", "east", "pears", [(6, 7)])),
                (3, 7, ("tell", "east", "pears", [(6, 6)])), (4, 6, ("tell", "west", "pears", [(9, 9)]))]
        called = [("pears", [(0, 20)])]
        self.assert_told(heap, 0, called, [])
        self.assert_told(heap, 1, called, [(9, "pears", [(5, 9)])])
        self.assert_told(heap, 2, called, [(9, "pears", [(5, 5), (8, 9)])])
        self.assert_told(heap, 3, called, [(9, "pears", [(5, 5), (8, 9)]), (7, "pears", [(7, 7)])])
        self.assert_told(heap, 4, called, [(9, "pears", [(5, 5), (8, 8)]), (7, "pears", [(7, 7)])])
        # Just the called ones.
        self.assert_told(heap, 4, [("pears", [(0, 7)])], [(9, "pears", [(5, 5)]), (7, "pears", [(7, 7)])])
        self.assert_told(heap, 4, [("pears", [(7, 7), (9, 9)])], [(7, "pears", [(7, 7)])])
        self.assert_told(heap, 4, [("pears", [(0, 4)])], [])
        self.assert_told(heap, 4, [("plums", [(0, 9)])], [])
        self.assert_told(heap, 4, [], [])
        self.assert_told([], 4, called, [])

    def test_found_and_lacking_again_by_another_page(self):
        heap = [self.PACK, (1, 1, ("tell", "mill", "pears", [])), (2, 2, ("tell", "mill", "pears", [(0, 9)])),
                (3, 3, ("tell", "mill", "pears", [(0, 8)]))]
        called = [("pears", [(0, 9)])]
        self.assert_told(heap, 1, called, [(1, "pears", [(0, 9)])])
        self.assert_told(heap, 2, called, [])
        self.assert_told(heap, 3, called, [(3, "pears", [(9, 9)])])

    def test_several_names(self):
        heap = [self.PACK, (0, 101, ("pack", "plums", 10, "mill")), (1, 5, ("tell", "mill", "plums", [(0, 8)])),
                (1, 4, ("tell", "mill", "pears", [(1, 9)])), (2, 1, ("tell", "mill", "plums", [(2, 9)]))]
        called = [("pears", [(0, 9)]), ("plums", [(0, 9)])]
        self.assert_told(heap, 1, called, [(4, "pears", [(0, 0)]), (5, "plums", [(9, 9)])])
        told = [(4, "pears", [(0, 0)]), (1, "plums", [(0, 1)])]
        self.assert_told(heap, 2, called, told)
        self.assert_told(heap, 2, called[::-1], told)
        self.assert_told(heap, 2, called[1:], told[1:])

    def test_told_as_pages_are_gone_through(self):
        heap = [self.PACK] + [(day, number, ("tell", "mill", "pears", [(0, last)]))
                              for day, number, last in [(3, 10, 3), (1, 30, 8), (2, 20, 5), (2, 9, 6), (3, 11, 2)]]
        self.assert_told(heap, 9, [("pears", [(0, 99)])], [
            (30, "pears", [(9, 9)]), (9, "pears", [(7, 8)]), (20, "pears", [(6, 6)]), (10, "pears", [(4, 5)]),
            (11, "pears", [(3, 3)])])

    def test_sold_and_back_are_not_among_them(self):
        heap = [self.PACK, (1, 1, ("sell", "mill", "pears", 0, 1)), (1, 2, ("back", "mill", "pears", 8, 9)),
                (2, 3, ("tell", "mill", "pears", [])), (3, 4, ("sell", "mill", "pears", 2, 3))]
        self.assert_told(heap, 1, [("pears", [(0, 9)])], [])
        self.assert_told(heap, 3, [("pears", [(0, 9)])], [(3, "pears", [(2, 7)])])

    def test_against_a_going_case_by_case(self):
        rng = random.Random(20)
        several = 0
        for _ in range(600):
            heap, day = small_heap(rng), rng.randint(2, 6)
            called = [(name, stretches_of(rng.sample(range(11), rng.randint(3, 11))))
                      for name in NAMES[:rng.randint(1, 2)]]
            wanted = {(name, case) for name, cases in called for case in members(cases)}
            tried = CaseByCase(heap, day)
            rows = {}
            for key, number in tried.by.items():
                if key in wanted:
                    rows.setdefault((number, key[0]), []).append(key[1])
            order = [number for number, _, _ in tried.fared]
            told = lacking_by(heap, day, called)
            keys = sorted(rows, key=lambda key: order.index(key[0]))
            self.assertEqual(told, [(*key, stretches_of(rows[key])) for key in keys])
            self.assertTrue(all(is_set(row[2]) for row in told))
            for name, *_, lacking in recall(heap, day, called)[1]:
                self.assertEqual(sum(len(members(row[2])) for row in told if row[1] == name), lacking)
            for other in in_orders(rng, heap):
                self.assertEqual(lacking_by(other, day, called), told)
            several += len(told) > 1
        self.assertGreater(several, 25)


class ChangedInPlaceTest(unittest.TestCase):
    def test_changed_lists_are_answered_as_they_are_then(self):
        there, wanted, parts, some = [(0, 9)], [(0, 2)], [("abcd", 0, 9)], [(3, 3)]
        heap = [(1, 1, ("pack", "pears", 10, "mill")), (2, 2, ("tell", "mill", "pears", there))]
        called, packings, marked = [("pears", wanted)], [("pears", 2, parts)], [("abcd", some)]

        def asked():
            return [call_of(packings, marked), recall(heap, 9, called), lacking_by(heap, 9, called)]

        self.assertEqual(asked(), [
            [("pears", [(1, 1)])], ([("mill", "pears", [(0, 2)])], [("pears", 3, 0, 3, 0, 0, 0)]), []])
        there[0], some[0] = (2, 9), (0, 3)
        self.assertEqual(asked(), [
            [("pears", [(0, 1)])], ([("mill", "pears", [(2, 2)])], [("pears", 3, 0, 1, 0, 0, 2)]),
            [(2, "pears", [(0, 1)])]])
        wanted[0], parts[0] = (1, 1), ("abcd", 3, 9)
        self.assertEqual(asked(), [
            [("pears", [(0, 0)])], ([], [("pears", 1, 0, 0, 0, 0, 1)]), [(2, "pears", [(1, 1)])]])
        heap.pop(0)
        marked.clear()
        self.assertEqual(asked(), [[], ([], [("pears", 1, 1, 0, 0, 0, 0)]), []])
        called.clear()
        packings.clear()
        self.assertEqual(asked(), [[], ([], []), []])


if __name__ == "__main__":
    unittest.main()

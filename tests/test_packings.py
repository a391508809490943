"""[8] packings: which tins a case has, and which cases have some tins."""

import itertools
import unittest

from tests.helper import BIG, cases_laid_out, holds_to_point_two, is_marked, is_set, stretches_of
from tinrecall.packings import cases_all, cases_of, cases_with, packed_twice, tins_in

PACKING = ("north", 4, [("abcd", 3, 8), ("zzzz", 0, 0), ("abcd", 20, 22), ("aaaa", 5, 5)])
# Its cases: abcd 3..6; abcd 7..8, zzzz 0, abcd 20; abcd 21..22, aaaa 5.
EMPTY = ("none", 3, [])
GREAT = ("great", BIG, [("abcd", 7, 7 + 3 * BIG), ("abce", BIG, BIG + 1), ("abcd", 0, BIG)])
PARTS = [("abcd", 0, 2), ("abcd", 1, 1), ("abce", 2, 6), ("abcd", 3, 4), ("abcd", 0, 2), ("abce", 0, 7)]
PACKINGS = [("case", size, list(parts)) for size in (1, 2, 3, 5, 30) for many in (1, 2, 3)
            for parts in itertools.permutations(PARTS, many)] + [("case", 1, []), ("case", 4, [])]


def tins_marked(marked):
    return {(mark, tin) for mark, some in marked for first, last in some for tin in range(first, last + 1)}


class CasesOfTest(unittest.TestCase):
    def test_told(self):
        parts = [("abcd", 3, 8), ("zzzz", 0, 3)]
        cases = [(EMPTY, 0), (PACKING, 3), (GREAT, 5), (("aa", BIG, []), 0), (("aa", 1, parts), 10),
                 (("aa", 9, parts), 2), (("aa", 10, parts), 1), (("aa", 11, parts), 1), (("aa", BIG, parts), 1),
                 (("aa", 5, parts), 2), (("aa", 1, [("abcd", 0, 0)]), 1), (("aa", 1, [("abcd", 1, BIG)]), BIG),
                 (("aa", 7, [("abcd", 0, 7 * BIG)]), BIG + 1)]
        for packing, told in cases:
            with self.subTest(packing):
                self.assertEqual(holds_to_point_two(self, cases_of, packing), told)


class TinsInTest(unittest.TestCase):
    def test_told(self):
        cases = [
            (PACKING, 0, [("abcd", 3, 6)]),
            (PACKING, 1, [("abcd", 7, 8), ("zzzz", 0, 0), ("abcd", 20, 20)]),
            (PACKING, 2, [("abcd", 21, 22), ("aaaa", 5, 5)]),
            (PACKING, 3, []), (PACKING, BIG, []), (EMPTY, 0, []), (EMPTY, 5, []),
            (GREAT, 0, [("abcd", 7, BIG + 6)]), (GREAT, 2, [("abcd", 2 * BIG + 7, 3 * BIG + 6)]),
            (GREAT, 3, [("abcd", 3 * BIG + 7, 3 * BIG + 7), ("abce", BIG, BIG + 1), ("abcd", 0, BIG - 4)]),
            (GREAT, 4, [("abcd", BIG - 3, BIG)]), (GREAT, 5, []), (GREAT, BIG * BIG, []),
            (("aa", 2, [("abcd", 0, 0), ("abcd", 0, 0)]), 0, [("abcd", 0, 0), ("abcd", 0, 0)]),
            (("aa", 4, [("abcd", 0, 1), ("abcd", 2, 3)]), 0, [("abcd", 0, 1), ("abcd", 2, 3)]),
        ]
        for packing, case, told in cases:
            with self.subTest((packing, case)):
                self.assertEqual(holds_to_point_two(self, tins_in, packing, case), told)

    def test_against_all_tins_laid_out(self):
        for packing in PACKINGS:
            laid = cases_laid_out(packing)
            self.assertEqual(cases_of(packing), len(laid))
            for case in range(len(laid) + 2):
                rows = tins_in(packing, case)
                tins = [(mark, tin) for mark, first, last in rows for tin in range(first, last + 1)]
                self.assertEqual(tins, laid[case] if case < len(laid) else [])
                self.assertTrue(all(first <= last for mark, first, last in rows))

    def test_one_row_for_each_part(self):
        packing = ("aa", 3, [("abcd", 0, 1), ("abcd", 2, 2), ("abcd", 3, 9)])
        self.assertEqual(tins_in(packing, 0), [("abcd", 0, 1), ("abcd", 2, 2)])
        self.assertEqual(tins_in(packing, 1), [("abcd", 3, 5)])


class CasesMarkedTest(unittest.TestCase):
    def test_told(self):
        cases = [
            (PACKING, [], [], []),
            (EMPTY, [], [], []),
            (EMPTY, [("abcd", [(0, 9)])], [], []),
            (PACKING, [("abcd", [])], [], []),
            (PACKING, [("none", [(0, BIG)])], [], []),
            (PACKING, [("abcd", [(9, 19), (23, BIG)])], [], []),
            (PACKING, [("abcd", [(0, 2)])], [], []),
            (PACKING, [("abcd", [(3, 3)])], [(0, 0)], []),
            (PACKING, [("abcd", [(3, 6)])], [(0, 0)], [(0, 0)]),
            (PACKING, [("abcd", [(0, 6)])], [(0, 0)], [(0, 0)]),
            (PACKING, [("abcd", [(4, 7)])], [(0, 1)], []),
            (PACKING, [("abcd", [(6, 7), (21, 21)])], [(0, 2)], []),
            (PACKING, [("abcd", [(3, 3), (22, 22)])], [(0, 0), (2, 2)], []),
            (PACKING, [("abcd", [(0, BIG)])], [(0, 2)], [(0, 0)]),
            (PACKING, [("abcd", [(0, BIG)]), ("zzzz", [(0, 0)])], [(0, 2)], [(0, 1)]),
            (PACKING, [("aaaa", [(5, 5)]), ("abcd", [(20, 30)])], [(1, 2)], [(2, 2)]),
            (PACKING, [("aaaa", [(0, 9)]), ("zzzz", [(0, 9)]), ("abcd", [(0, 99)])], [(0, 2)], [(0, 2)]),
            (PACKING, [("zzzz", [(0, 0)])], [(1, 1)], []),
            (PACKING, [("zzzz", [(1, BIG)])], [], []),
            (GREAT, [("abcd", [(0, 4 * BIG)])], [(0, 4)], [(0, 2), (4, 4)]),
            (GREAT, [("abce", [(BIG, BIG)])], [(3, 3)], []),
            (GREAT, [("abcd", [(BIG - 3, BIG)])], [(0, 0), (4, 4)], [(4, 4)]),
            (("aa", 1, [("abcd", 0, BIG)]), [("abcd", [(5, 5), (7, BIG + 9)])], [(5, 5), (7, BIG)], [(5, 5), (7, BIG)]),
            (("aa", 10, [("abcd", 0, 10 * BIG)]), [("abcd", [(5, 10 * BIG)])], [(0, BIG)], [(1, BIG)]),
            (("aa", 2, [("abcd", 4, 4), ("abcd", 4, 4)]), [("abcd", [(4, 4)])], [(0, 0)], [(0, 0)]),
            (("aa", BIG, [("abcd", 4, 6)]), [("abcd", [(4, 6)])], [(0, 0)], [(0, 0)]),
        ]
        for packing, marked, some, whole in cases:
            with self.subTest((packing, marked)):
                self.assertEqual(holds_to_point_two(self, cases_with, packing, marked), some)
                self.assertEqual(holds_to_point_two(self, cases_all, packing, marked), whole)

    def test_against_all_tins_laid_out(self):
        sets = [[], [(1, 1)], [(0, 0), (2, 3)], [(0, 2)], [(2, 9)], [(0, 9)], [(50, BIG)]]
        for packing in PACKINGS:
            laid = cases_laid_out(packing)
            for one, other in itertools.product(sets, sets[::2]):
                marked = [("abce", one), ("none", [(0, 5)]), ("abcd", other)]
                tins = tins_marked([(mark, [pair for pair in some if pair[1] < BIG]) for mark, some in marked])
                some, whole = cases_with(packing, marked), cases_all(packing, marked)
                self.assertTrue(is_set(some) and is_set(whole))
                touched = [k for k, case in enumerate(laid) if any(tin in tins for tin in case)]
                filled = [k for k, case in enumerate(laid) if all(tin in tins for tin in case)]
                self.assertEqual((some, whole), (stretches_of(touched), stretches_of(filled)), (packing, marked))

    def test_the_order_of_marked_changes_nothing(self):
        marked = [("aaaa", [(5, 5)]), ("abcd", [(20, 30)]), ("zzzz", [(0, 1)])]
        for order in itertools.permutations(marked):
            self.assertEqual(cases_with(PACKING, list(order)), [(1, 2)])
            self.assertEqual(cases_all(PACKING, list(order)), [(2, 2)])


class PackedTwiceTest(unittest.TestCase):
    def test_told(self):
        cases = [
            ([], []),
            ([EMPTY, EMPTY], []),
            ([PACKING], []),
            ([("aa", 2, [("abcd", 0, 4), ("abcd", 5, 9)])], []),
            ([("aa", 2, [("abcd", 0, 4), ("abce", 0, 4)])], []),
            ([("aa", 2, [("abcd", 0, 4), ("abcd", 4, 9)])], [("abcd", [(4, 4)])]),
            ([("aa", 2, [("abcd", 0, 4), ("abcd", 0, 4)])], [("abcd", [(0, 4)])]),
            ([("aa", 2, [("abcd", 0, 0), ("abcd", 0, 0)])], [("abcd", [(0, 0)])]),
            ([("aa", 2, [("abcd", 0, 9), ("abcd", 3, 4), ("abcd", 6, 7)])], [("abcd", [(3, 4), (6, 7)])]),
            ([("aa", 2, [("abcd", 0, 9), ("abcd", 3, 4), ("abcd", 5, 7)])], [("abcd", [(3, 7)])]),
            ([("aa", 2, [("abcd", 2, 3)]), ("bb", 2, [("abcd", 3, 3)])], [("abcd", [(3, 3)])]),
            ([("aa", 2, [("zzzz", 2, 3)]), ("bb", 5, [("abcd", 1, 1), ("zzzz", 0, 9)]), ("cc", 1, [("abcd", 0, 1)])],
             [("abcd", [(1, 1)]), ("zzzz", [(2, 3)])]),
            ([PACKING, PACKING], [("aaaa", [(5, 5)]), ("abcd", [(3, 8), (20, 22)]), ("zzzz", [(0, 0)])]),
            ([GREAT], [("abcd", [(7, BIG)])]),
            ([GREAT, ("aa", 1, [("abce", 0, BIG)])], [("abcd", [(7, BIG)]), ("abce", [(BIG, BIG)])]),
        ]
        for packings, told in cases:
            with self.subTest(packings):
                self.assertEqual(holds_to_point_two(self, packed_twice, packings), told)

    def test_against_all_tins_laid_out(self):
        for k, packing in enumerate(PACKINGS):
            other = PACKINGS[(5 * k + 3) % len(PACKINGS)]
            for packings in ([packing], [packing, other], [other, packing, packing]):
                tins = [tin for one in packings for case in cases_laid_out(one) for tin in case]
                twice = sorted({tin for tin in tins if tins.count(tin) > 1})
                marks = sorted({mark for mark, tin in twice})
                told = packed_twice(packings)
                self.assertTrue(is_marked(told))
                rows = [(mark, stretches_of([tin for of, tin in twice if of == mark])) for mark in marks]
                self.assertEqual(told, rows, packings)

    def test_another_order_changes_nothing(self):
        packings = [PACKING, GREAT, EMPTY, ("aa", 2, [("abcd", 8, 20), ("zzzz", 0, 5)])]
        told = packed_twice(packings)
        self.assertEqual(told, [("abcd", [(3, BIG)]), ("zzzz", [(0, 0)])])
        for order in itertools.permutations(packings):
            turned = [(name, size, parts[::-1]) for name, size, parts in order]
            self.assertEqual(packed_twice(list(order)), told)
            self.assertEqual(packed_twice(turned), told)

    def test_twelve_packings_of_twelve_parts(self):
        packings = [("pack" + "abcdefghijkl"[k], 5, [("abcd", BIG * j + k, BIG * j + k + 1) for j in range(12)])
                    for k in range(12)]
        self.assertEqual(packed_twice(packings), [("abcd", [(BIG * j + 1, BIG * j + 11) for j in range(12)])])


class ChangedInPlaceTest(unittest.TestCase):
    def test_changed_lists_are_answered_as_they_are_then(self):
        parts, some = [("abcd", 0, 3)], [(0, 0)]
        packing, marked = ("aa", 2, parts), [("abcd", some)]

        def asked():
            return [cases_of(packing), tins_in(packing, 1), cases_with(packing, marked), cases_all(packing, marked),
                    packed_twice([packing])]

        self.assertEqual(asked(), [2, [("abcd", 2, 3)], [(0, 0)], [], []])
        parts.append(("abcd", 3, 4))
        some[0] = (0, 1)
        self.assertEqual(asked(), [3, [("abcd", 2, 3)], [(0, 0)], [(0, 0)], [("abcd", [(3, 3)])]])
        parts[0] = ("abce", 0, 0)
        marked[0] = ("abce", [(0, 9)])
        self.assertEqual(asked(), [2, [("abcd", 4, 4)], [(0, 0)], [], []])
        parts.clear()
        self.assertEqual(asked(), [0, [], [], [], []])


if __name__ == "__main__":
    unittest.main()

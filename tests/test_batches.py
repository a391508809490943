"""[6] batches: windows, and the tins at a place."""

import unittest

from tests.helper import BIG, holds_to_point_two, is_set, stretches_of
from tinrecall.batches import tins_at, window

STAYS = [(40, 49), (0, 9), (9, 20), (21, 30), (5, 60), (100, 100)]
BATCH = ("ab12", 23, [("line", "filler", 10, 2, 3), ("racks", "cooker", 4, STAYS), ("line", "seamer", 15, 0, 7)])
SPAN = list(range(14))


def met_one_by_one(batch, place, first, last):
    """The tins whose windows meet the minutes, each tin looked at."""
    met = []
    for tin in range(batch[1]):
        told = window(batch, place, tin)
        if told is not None and told[1] >= first and (last is None or told[0] <= last):
            if last is None or first <= last:
                met.append(tin)
    return stretches_of(met)


class WindowTest(unittest.TestCase):
    def test_lines(self):
        cases = [
            (("line", "here", 0, 1, 1), [0, 1, 2, 3, 4]),
            (("line", "here", 7, 1, 1), [7, 8, 9, 10, 11]),
            (("line", "here", 7, 0, 1), [7, 7, 7, 7, 7]),
            (("line", "here", 7, 0, 9), [7, 7, 7, 7, 7]),
            (("line", "here", 7, 5, 1), [7, 12, 17, 22, 27]),
            (("line", "here", 0, 1, 3), [0, 0, 0, 1, 1]),
            (("line", "here", 1, 2, 3), [1, 1, 2, 3, 3]),
            (("line", "here", 1, 5, 3), [1, 2, 4, 6, 7]),
            (("line", "here", 3, 2, BIG), [3, 3, 3, 3, 3]),
        ]
        for line, minutes in cases:
            for tin, minute in enumerate(minutes):
                with self.subTest((line, tin)):
                    told = holds_to_point_two(self, window, ("abcd", 5, [line]), "here", tin)
                    self.assertEqual(told, (minute, minute))

    def test_great_line(self):
        batch = ("abcd", 5 * BIG, [("line", "here", BIG, BIG + 1, BIG)])
        self.assertEqual(window(batch, "here", BIG - 1), (2 * BIG - 1, 2 * BIG - 1))
        self.assertEqual(window(batch, "here", BIG), (2 * BIG + 1, 2 * BIG + 1))
        self.assertEqual(window(batch, "here", 5 * BIG - 1), (6 * BIG + 3, 6 * BIG + 3))

    def test_racks(self):
        for tin in range(23):
            rack = [tin in range(4 * k, 4 * k + 4) for k in range(6)].index(True)
            self.assertEqual(holds_to_point_two(self, window, BATCH, "cooker", tin), STAYS[rack])

    def test_great_racks(self):
        batch = ("abcd", 2 * BIG + 1, [("racks", "here", BIG, [(5, 6), (3, BIG), (0, 0)])])
        told = [window(batch, "here", tin) for tin in (0, BIG - 1, BIG, 2 * BIG - 1, 2 * BIG)]
        self.assertEqual(told, [(5, 6), (5, 6), (3, BIG), (3, BIG), (0, 0)])

    def test_no_pass_of_the_place(self):
        self.assertIsNone(window(BATCH, "nowhere", 0))
        self.assertIsNone(window(("abcd", 5, []), "here", 4))
        self.assertIsNone(window(("abcd", 5, ()), "here", 4))

    def test_the_pass_of_the_place_is_taken(self):
        self.assertEqual(window(BATCH, "seamer", 22), (15, 15))
        self.assertEqual(window(BATCH, "filler", 22), (24, 24))


class TinsAtTest(unittest.TestCase):
    def test_told(self):
        cases = [
            ("filler", 10, 10, [(0, 1)]), ("filler", 11, 11, [(2, 2)]), ("filler", 12, 12, [(3, 4)]),
            ("filler", 0, 9, []), ("filler", 0, 10, [(0, 1)]), ("filler", 24, 24, [(21, 22)]),
            ("filler", 24, None, [(21, 22)]), ("filler", 25, None, []), ("filler", 0, None, [(0, 22)]),
            ("filler", 12, 11, []), ("filler", 12, 0, []), ("filler", BIG, None, []), ("filler", 0, BIG, [(0, 22)]),
            ("seamer", 15, 15, [(0, 22)]), ("seamer", 0, 14, []), ("seamer", 16, None, []), ("seamer", 16, 15, []),
            ("seamer", 15, None, [(0, 22)]), ("seamer", 0, None, [(0, 22)]), ("seamer", 14, 16, [(0, 22)]),
            ("cooker", 0, 4, [(4, 7)]), ("cooker", 9, 9, [(4, 11), (16, 19)]), ("cooker", 10, 10, [(8, 11), (16, 19)]),
            ("cooker", 20, 21, [(8, 19)]), ("cooker", 49, 49, [(0, 3), (16, 19)]), ("cooker", 50, 50, [(16, 19)]),
            ("cooker", 61, 99, []), ("cooker", 61, 100, [(20, 22)]), ("cooker", 100, None, [(20, 22)]),
            ("cooker", 101, None, []), ("cooker", 0, None, [(0, 22)]), ("cooker", 50, 8, []), ("cooker", 9, 8, []),
            ("cooker", 40, 39, []), ("cooker", 31, 39, [(16, 19)]),
            ("nowhere", 0, None, []), ("nowhere", 0, 100, []),
        ]
        for place, first, last, told in cases:
            with self.subTest((place, first, last)):
                self.assertEqual(holds_to_point_two(self, tins_at, BATCH, place, first, last), told)

    def test_no_passes(self):
        self.assertEqual(holds_to_point_two(self, tins_at, ("abcd", 5, []), "here", 0, None), [])

    def check_all_minutes(self, batch):
        for first in SPAN:
            for last in SPAN + [None]:
                told = tins_at(batch, "here", first, last)
                self.assertTrue(is_set(told))
                self.assertEqual(told, met_one_by_one(batch, "here", first, last), (batch, first, last))

    def test_lines_against_each_tin(self):
        for tins in (1, 2, 5):
            for start in (0, 3):
                for long in range(6):
                    for by in (1, 2, 3, 5):
                        self.check_all_minutes(("abcd", tins, [("line", "here", start, long, by)]))

    def test_racks_against_each_tin(self):
        stays = [(5, 7), (0, 2), (7, 7), (3, 4), (10, 12), (2, 11), (8, 9), (5, 7)]
        for tins in range(1, 9):
            for per in range(1, 10):
                racks = -(-tins // per)
                for turn in range(3):
                    turned = (stays[turn:] + stays[:turn])[:racks]
                    self.check_all_minutes(("abcd", tins, [("racks", "here", per, turned)]))

    def test_great_lines(self):
        for start, long, by in [(0, 1, 1), (5, 7, 3), (BIG, 3, 7), (9, BIG + 7, 3), (9, 3, BIG + 7), (1, BIG, BIG + 1)]:
            batch = ("abcd", 7 * BIG + 3, [("line", "here", start, long, by)])
            end = window(batch, "here", 7 * BIG + 2)[0]
            for first in [start, start + 1, start + (end - start) // 3, end - 1, end]:
                for last in [first, first + 1, (first + end) // 2, end, end + 1, None]:
                    self.check_ends(batch, first, last)

    def first_from(self, batch, minute):
        """The first tin that is there at the minute or behind it, or the last tin, halved down to."""
        low, high = 0, batch[1] - 1
        while low < high:
            middle = (low + high) // 2
            low, high = (low, middle) if window(batch, "here", middle)[0] >= minute else (middle + 1, high)
        return low

    def check_ends(self, batch, first, last):
        """Holds a told set against the windows at its ends: on a line they rise with the tins."""
        told = tins_at(batch, "here", first, last)
        if not told:
            minute = window(batch, "here", self.first_from(batch, first))[0]
            self.assertFalse(first <= minute and (last is None or minute <= last))
            return
        self.assertEqual(len(told), 1)
        low, high = told[0]
        self.assertGreaterEqual(window(batch, "here", low)[0], first)
        self.assertTrue(low == 0 or window(batch, "here", low - 1)[0] < first)
        self.assertTrue(last is None or window(batch, "here", high)[0] <= last)
        self.assertTrue(high == batch[1] - 1 or window(batch, "here", high + 1)[0] > last)

    def test_great_lines_told(self):
        batch = ("abcd", BIG, [("line", "here", 100, 1, 10)])
        self.assertEqual(tins_at(batch, "here", 103, 104), [(30, 49)])
        self.assertEqual(tins_at(batch, "here", 103, None), [(30, BIG - 1)])
        still = ("abcd", BIG, [("line", "here", 100, 0, BIG)])
        self.assertEqual(tins_at(still, "here", 100, 100), [(0, BIG - 1)])
        self.assertEqual(tins_at(still, "here", 101, BIG), [])

    def test_great_racks(self):
        batch = ("abcd", 2 * BIG + 1, [("racks", "here", BIG, [(5, 6), (3, BIG), (BIG, BIG)])])
        cases = [(0, 2, []), (0, 3, [(BIG, 2 * BIG - 1)]), (6, 6, [(0, 2 * BIG - 1)]), (BIG, None, [(BIG, 2 * BIG)]),
                 (BIG + 1, None, []), (0, None, [(0, 2 * BIG)]), (5, BIG - 1, [(0, 2 * BIG - 1)])]
        for first, last, told in cases:
            self.assertEqual(tins_at(batch, "here", first, last), told)

    def test_changed_lists_are_answered_as_they_are_then(self):
        stays = [(0, 1), (2, 3)]
        passes = [("racks", "here", 2, stays)]
        batch = ("abcd", 4, passes)
        self.assertEqual((tins_at(batch, "here", 0, 1), window(batch, "here", 3)), ([(0, 1)], (2, 3)))
        stays[1] = (1, 8)
        self.assertEqual((tins_at(batch, "here", 0, 1), window(batch, "here", 3)), ([(0, 3)], (1, 8)))
        passes[0] = ("line", "here", 0, 1, 1)
        self.assertEqual((tins_at(batch, "here", 0, 1), window(batch, "here", 3)), ([(0, 1)], (3, 3)))
        passes.clear()
        self.assertEqual((tins_at(batch, "here", 0, 1), window(batch, "here", 3)), ([], None))


if __name__ == "__main__":
    unittest.main()

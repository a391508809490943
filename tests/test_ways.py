"""[16] which way a case went, and what a page that comes late turns."""

import random
import unittest

from tests.helper import BIG, HOLDERS, NAMES, CaseByCase, holds_to_point_two, in_orders, small_deed, small_heap
from tinrecall.ladings import standing
from tinrecall.ways import late, way_of

HEAP = [
    (1, 10, ("pack", "pears", 10, "mill")),
    (2, 11, ("lade", "mill", "east", "pears", 0, 4)),
    (3, 12, ("tell", "east", "pears", [(0, 2)])),
    (4, 13, ("tell", "west", "pears", [(3, 3), (20, 20)])),
    (5, 14, ("tell", "west", "pears", [(3, 3)])),
    (6, 15, ("sell", "west", "pears", 3, 3)),
    (6, 16, ("back", "east", "pears", 1, 1)),
    (7, 17, ("lade", "west", "mill", "pears", 0, 9)),
    (8, 18, ("lade", "mill", "mill", "pears", 0, 9)),
    (8, 19, ("pack", "pears", 50, "east")),
    (8, 20, ("sell", "mill", "plums", 0, 3)),
]


def lies_with(told, name, case):
    """By what standing tells, with whom a case lies, or the word of its end; None of one that isn't packed."""
    for holder, of, some in told[0]:
        if of == name and any(first <= case <= last for first, last in some):
            return ("lying", holder)
    for of, word, some in told[1]:
        if of == name and any(first <= case <= last for first, last in some):
            return (word, None)
    return None


class WayOfTest(unittest.TestCase):
    def assert_told(self, heap, day, name, case, told):
        with self.subTest((day, name, case)):
            self.assertEqual(holds_to_point_two(self, way_of, heap, day, name, case), told)
            self.assertEqual(way_of(heap[::-1], day, name, case), told)

    def test_each_word_with_its_holder(self):
        cases = [
            (0, [(10, "packed", "mill"), (11, "laded", "east")]),
            (1, [(10, "packed", "mill"), (11, "laded", "east"), (16, "back", "east")]),
            (3, [(10, "packed", "mill"), (11, "laded", "east"), (12, "lacking", "east"), (13, "found", "west"),
                 (15, "sold", "west")]),
            (4, [(10, "packed", "mill"), (11, "laded", "east"), (12, "lacking", "east")]),
            (9, [(10, "packed", "mill")]),
        ]
        for case, told in cases:
            self.assert_told(HEAP, 99, "pears", case, told)

    def test_pages_behind_the_day(self):
        whole = way_of(HEAP, 99, "pears", 3)
        for day, many in [(0, 0), (1, 1), (2, 2), (3, 3), (4, 4), (5, 4), (6, 5), (7, 5), (BIG, 5)]:
            self.assert_told(HEAP, day, "pears", 3, whole[:many])

    def test_never_packed(self):
        for name, case in [("pears", 10), ("pears", 20), ("pears", 49), ("pears", BIG), ("plums", 0), ("nuts", 3)]:
            self.assert_told(HEAP, 99, name, case, [])
        self.assert_told([], 99, "pears", 0, [])
        self.assert_told(HEAP[1:], 7, "pears", 0, [])
        # The first pack being gone, the other one is done, behind pages that were idle.
        self.assert_told(HEAP[1:], 8, "pears", 0, [(19, "packed", "east")])

    def test_a_told_case_that_lies_there_is_not_put(self):
        heap = HEAP[:1] + [(2, 0, ("tell", "mill", "pears", [(0, 4)])), (3, 1, ("tell", "mill", "pears", [(0, 9)]))]
        self.assert_told(heap, 9, "pears", 4, [(10, "packed", "mill")])
        self.assert_told(heap, 9, "pears", 5, [(10, "packed", "mill"), (0, "lacking", "mill"), (1, "found", "mill")])

    def test_a_short_case_is_put_nowhere(self):
        heap = HEAP[:1] + [(2, 0, ("lade", "east", "west", "pears", 0, 9)), (3, 1, ("sell", "mill", "pears", 0, 4)),
                           (4, 2, ("lade", "mill", "west", "pears", 0, 9)), (5, 3, ("back", "mill", "pears", 0, 9)),
                           (6, 4, ("tell", "mill", "pears", [(0, 9)]))]
        self.assert_told(heap, 9, "pears", 0, [(10, "packed", "mill"), (1, "sold", "mill")])
        self.assert_told(heap, 9, "pears", 9, [(10, "packed", "mill"), (2, "laded", "west")])

    def test_other_names_are_not_told(self):
        heap = HEAP + [(1, 30, ("pack", "plums", 10, "east")), (2, 31, ("sell", "east", "plums", 3, 3))]
        self.assert_told(heap, 99, "plums", 3, [(30, "packed", "east"), (31, "sold", "east")])
        self.assert_told(heap, 5, "pears", 3, way_of(HEAP, 5, "pears", 3))

    def test_back_and_forth(self):
        heap = HEAP[:1] + [(2, k, ("lade", *(("mill", "east") if k % 2 else ("east", "mill")), "pears", 5, 5))
                           for k in range(1, 6)]
        self.assert_told(heap, 9, "pears", 5, [(10, "packed", "mill")] + [
            (k, "laded", "east" if k % 2 else "mill") for k in range(1, 6)])

    def test_great_numbers(self):
        heap = [(BIG, BIG, ("pack", "pears", 10 * BIG, "mill")),
                (BIG + 1, 1, ("tell", "mill", "pears", [(0, 5 * BIG)])),
                (BIG + 2, 0, ("lade", "mill", "east", "pears", BIG, 9 * BIG))]
        self.assert_told(heap, 2 * BIG, "pears", 5 * BIG, [(BIG, "packed", "mill"), (0, "laded", "east")])
        self.assert_told(heap, 2 * BIG, "pears", 5 * BIG + 1, [(BIG, "packed", "mill"), (1, "lacking", "mill")])
        self.assert_told(heap, 2 * BIG, "pears", 10 * BIG, [])
        self.assert_told(heap, BIG - 1, "pears", 0, [])

    def test_against_a_going_case_by_case(self):
        rng = random.Random(16)
        words = set()
        for _ in range(400):
            heap, day = small_heap(rng), rng.randint(0, 6)
            tried = CaseByCase(heap, day)
            for name in [*NAMES, "nuts"]:
                for case in range(11):
                    told = way_of(heap, day, name, case)
                    self.assertEqual(told, tried.ways.get((name, case), []), (heap, day, name, case))
                    words |= {word for _, word, _ in told}
            for order in in_orders(rng, heap):
                self.assertEqual(way_of(order, day, "pears", 2), way_of(heap, day, "pears", 2))
        self.assertEqual(words, {"packed", "laded", "found", "sold", "back", "lacking"})

    def test_against_standing_day_by_day(self):
        rng = random.Random(17)
        for _ in range(40):
            # One page a day, so that standing is seen behind each of them.
            pages = sorted(small_heap(rng), key=lambda page: page[:2])
            heap = [(at, number, deed) for at, (_, number, deed) in enumerate(pages)]
            for name in NAMES:
                for case in range(10):
                    way, spot = [], None
                    for day, number, deed in heap:
                        now = lies_with(standing(heap, day), name, case)
                        if now != spot:
                            ends = now[0] != "lying"
                            word = now[0] if ends else {"pack": "packed", "lade": "laded", "tell": "found"}[deed[0]]
                            way.append((number, word, spot[1] if ends else now[1]))
                        spot = now
                        self.assertEqual(way_of(heap, day, name, case), way, (heap, day, name, case))

    def test_changed_lists_are_answered_as_they_are_then(self):
        cases = [(0, 9)]
        heap = [HEAP[0], (2, 5, ("tell", "mill", "pears", cases))]
        self.assertEqual(way_of(heap, 9, "pears", 0), [(10, "packed", "mill")])
        cases[0] = (1, 9)
        self.assertEqual(way_of(heap, 9, "pears", 0), [(10, "packed", "mill"), (5, "lacking", "mill")])
        heap.append((1, 11, ("sell", "mill", "pears", 0, 0)))
        self.assertEqual(way_of(heap, 9, "pears", 0), [(10, "packed", "mill"), (11, "sold", "mill")])
        heap.pop(0)
        self.assertEqual(way_of(heap, 9, "pears", 0), [])


class LateTest(unittest.TestCase):
    def assert_told(self, heap, page, day, told):
        with self.subTest((page, day)):
            self.assertEqual(holds_to_point_two(self, late, heap, page, day), told)
            self.assertEqual(late(heap[::-1], page, day), told)

    def test_turns_none(self):
        for page in [(2, 50, ("tell", "none", "pears", [])), (9, 50, ("sell", "mill", "pears", 5, 9)),
                     (0, 50, ("sell", "mill", "pears", 0, 9)), (1, 50, ("lade", "mill", "mill", "pears", 0, 9))]:
            self.assert_told(HEAP, page, 99, [])
        self.assert_told([], HEAP[0], 99, [])

    def test_itself_is_not_told(self):
        # Short, or idle, itself; it turns no other one.
        self.assert_told(HEAP[:1], (2, 5, ("sell", "east", "pears", 0, 3)), 9, [])
        self.assert_told(HEAP[:1], (0, 5, ("sell", "east", "pears", 0, 3)), 9, [])
        self.assert_told(HEAP[:1], (2, 5, ("pack", "pears", 3, "east")), 9, [])
        self.assert_told(HEAP[:1], (2, 5, ("lade", "east", "east", "pears", 0, 3)), 9, [])

    def test_turns_short_ones(self):
        sell = (2, 5, ("sell", "mill", "pears", 3, 12))
        self.assert_told([HEAP[0], sell], (1, 20, ("back", "mill", "pears", 3, 4)), 9,
                         [(5, ("done", [(10, 12)]), ("done", [(3, 4), (10, 12)]))])
        self.assert_told([HEAP[0], sell], (1, 20, ("back", "mill", "pears", 0, 2)), 9, [])
        # Fewer short ones, and none.
        lost = (2, 6, ("sell", "east", "pears", 3, 4))
        self.assert_told([HEAP[0], lost], (2, 5, ("lade", "mill", "east", "pears", 4, 4)), 9,
                         [(6, ("done", [(3, 4)]), ("done", [(3, 3)]))])
        self.assert_told([HEAP[0], lost], (2, 5, ("lade", "mill", "east", "pears", 3, 4)), 9,
                         [(6, ("done", [(3, 4)]), ("done", []))])
        # Told cases that are found are no longer short.
        told = (4, 6, ("tell", "east", "pears", [(0, 1)]))
        self.assert_told([HEAP[0], told], (3, 7, ("tell", "mill", "pears", [(1, 9)])), 9,
                         [(6, ("done", [(0, 1)]), ("done", [(1, 1)]))])

    def test_a_pack_that_comes_late(self):
        heap = [(2, 5, ("sell", "mill", "pears", 3, 4)), (3, 4, ("lade", "mill", "mill", "pears", 0, 9)),
                (3, 6, ("lade", "mill", "east", "pears", 2, 5)), (1, 7, ("tell", "mill", "pears", [(0, 9)])),
                (4, 8, ("sell", "mill", "plums", 3, 4))]
        self.assert_told(heap, (0, 30, ("pack", "pears", 5, "mill")), 9, [
            (7, ("strange", []), ("done", [(5, 9)])),
            (5, ("strange", []), ("done", [])),
            (4, ("strange", []), ("same", [])),
            (6, ("strange", []), ("done", [(3, 5)]))])
        # Pages ahead of it stay.
        self.assert_told(heap, (3, 5, ("pack", "pears", 9, "mill")), 9, [(6, ("strange", []), ("done", []))])
        # Another pack is idle then, and what came behind finds other cases.
        pack = (2, 3, ("pack", "pears", 10, "mill"))
        self.assert_told([*heap, pack], (2, 2, ("pack", "pears", 4, "mill")), 9, [
            (3, ("done", []), ("packed", [])),
            (5, ("done", []), ("done", [(4, 4)])),
            (6, ("done", [(3, 4)]), ("done", [(3, 5)]))])
        self.assert_told([*heap, pack], (2, 4, ("pack", "pears", 4, "mill")), 9, [])

    def test_pages_behind_the_day(self):
        heap = [HEAP[0], (2, 5, ("sell", "mill", "pears", 0, 0)), (3, 4, ("sell", "mill", "pears", 0, 1))]
        page = (1, 11, ("back", "mill", "pears", 0, 1))
        one, other = (5, ("done", []), ("done", [(0, 0)])), (4, ("done", [(0, 0)]), ("done", [(0, 1)]))
        for day, told in [(0, []), (1, []), (2, [one]), (3, [one, other]), (BIG, [one, other])]:
            self.assert_told(heap, page, day, told)
        # A page of a day behind the asked one turns none.
        self.assert_told(heap, (2, 0, page[2]), 1, [])
        self.assert_told(heap, (3, 0, page[2]), 2, [])
        self.assert_told(heap, (2, 0, page[2]), 2, [one])

    def test_told_as_pages_are_gone_through(self):
        sells = [(3, 9, ("sell", "mill", "pears", 0, 9)), (2, 8, ("sell", "mill", "pears", 1, 1)),
                 (2, 20, ("sell", "mill", "pears", 2, 2)), (4, 1, ("tell", "mill", "pears", [(0, 0)]))]
        told = late([*sells, HEAP[0]], (1, 3, ("pack", "pears", 1, "east")), 99)
        self.assertEqual([row[0] for row in told], [10, 8, 20, 9])
        self.assertEqual(told[0], (10, ("done", []), ("packed", [])))
        self.assertEqual(told[3], (9, ("done", [(1, 2)]), ("done", [(0, 9)])))

    def test_great_numbers(self):
        heap = [(BIG, BIG, ("pack", "pears", 10 * BIG, "mill")), (3 * BIG, 5, ("sell", "mill", "pears", BIG, 12 * BIG))]
        self.assert_told(heap, (2 * BIG, 0, ("lade", "mill", "east", "pears", 0, 2 * BIG)), BIG * BIG, [
            (5, ("done", [(10 * BIG, 12 * BIG)]), ("done", [(BIG, 2 * BIG), (10 * BIG, 12 * BIG)]))])

    def test_against_standing_without_and_with_the_page(self):
        rng = random.Random(18)
        turned, kinds = 0, set()
        for _ in range(2500):
            heap, day = small_heap(rng), rng.randint(3, 6)
            page = (rng.randint(0, 4), 50 + rng.randint(0, 9), small_deed(rng))
            if heap and rng.random() < 0.5:
                at = rng.randrange(len(heap))
                page, heap = heap[at], heap[:at] + heap[at + 1:]
            told = late(heap, page, day)
            one, other = CaseByCase(heap, day).fared, CaseByCase([*heap, page], day).fared
            other = [row for row in other if row[0] != page[1]]
            self.assertEqual([row[0] for row in one], [row[0] for row in other])
            wanted = [(a[0], a[1:], b[1:]) for a, b in zip(one, other) if a != b]
            self.assertEqual(told, wanted, (heap, page, day))
            self.assertEqual(late(rng.sample(heap, len(heap)), page, day), told)
            before, after = standing(heap, day), standing([*heap, page], day)
            for number, (word, short), (then, short_then) in told:
                self.assertEqual(dict(before[3]).get(number, "done"), word)
                self.assertEqual(dict(after[3]).get(number, "done"), then)
                self.assertEqual(dict(before[2]).get(number, []), short)
                self.assertEqual(dict(after[2]).get(number, []), short_then)
                kinds |= {(word, then)}
            turned += len(told) > 1
        self.assertGreater(turned, 100)
        self.assertLessEqual({("done", "done"), ("strange", "done"), ("strange", "same"), ("done", "packed")}, kinds)

    def test_changed_lists_are_answered_as_they_are_then(self):
        cases = [(0, 9)]
        heap = [HEAP[0], (3, 5, ("sell", "mill", "pears", 0, 3))]
        page = (2, 4, ("tell", "mill", "pears", cases))
        self.assertEqual(late(heap, page, 9), [])
        cases[0] = (2, 9)
        self.assertEqual(late(heap, page, 9), [(5, ("done", []), ("done", [(0, 1)]))])
        heap[1] = (3, 6, ("sell", "mill", "pears", 1, 3))
        self.assertEqual(late(heap, page, 9), [(6, ("done", []), ("done", [(1, 1)]))])
        heap.clear()
        self.assertEqual(late(heap, page, 9), [])


class ToldAgainTest(unittest.TestCase):
    def test_told_things_handed_in_again(self):
        lying = standing(HEAP, 3)[0]
        self.assertEqual(lying, [("east", "pears", [(0, 2)]), ("mill", "pears", [(5, 9)])])
        heap = HEAP[:3] + [(4, 60 + at, ("tell", *row)) for at, row in enumerate(lying)]
        self.assertEqual(standing(heap, 4), standing(HEAP, 3))
        for holder in HOLDERS:
            self.assertEqual(late(heap, (3, 70, ("tell", holder, "plums", lying[0][2])), 9), [])


if __name__ == "__main__":
    unittest.main()

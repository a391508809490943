"""[14], [15] where each packed case lies on a day, or what became of it."""

import itertools
import random
import unittest

from tests.helper import BIG, CaseByCase, holds_to_point_two, in_orders, is_set, members, small_heap
from tinrecall.ladings import standing

PACK = (1, 10, ("pack", "pears", 10, "mill"))
LATE_DAY = 99


def heap_of(*deeds):
    """A heap with the deeds one behind the other, the day and number of each being its place."""
    return [(at, at, deed) for at, deed in enumerate(deeds)]


def packed(*deeds):
    """A heap whose page 0 packs ten cases of pears, with mill, and the deeds behind it from 1 on."""
    return heap_of(("pack", "pears", 10, "mill"), *deeds)


class StandingTest(unittest.TestCase):
    def assert_told(self, heap, lying, ends=(), shorts=(), idle=(), day=LATE_DAY):
        with self.subTest(heap, day=day):
            told = holds_to_point_two(self, standing, heap, day)
            self.assertIs(type(told), tuple)
            self.assertEqual(told, (lying, list(ends), list(shorts), list(idle)))
            for order in ([*heap[1:], *heap[:1]], heap[::-1]):
                self.assertEqual(standing(order, day), told)

    def test_no_pages(self):
        self.assert_told([], [])
        self.assert_told([], [], day=0)
        self.assert_told([PACK], [], day=0)
        self.assert_told([(5, 0, PACK[2]), (7, 1, ("sell", "mill", "pears", 0, 3))], [], day=4)

    def test_pages_behind_the_day(self):
        heap = packed(("lade", "mill", "east", "pears", 0, 3), ("sell", "east", "pears", 1, 5),
                      ("tell", "mill", "plums", []))
        self.assert_told(heap, [("mill", "pears", [(0, 9)])], day=0)
        self.assert_told(heap, [("east", "pears", [(0, 3)]), ("mill", "pears", [(4, 9)])], day=1)
        lying = [("east", "pears", [(0, 0)]), ("mill", "pears", [(4, 9)])]
        ends, shorts = [("pears", "sold", [(1, 3)])], [(2, [(4, 5)])]
        self.assert_told(heap, lying, ends, shorts, day=2)
        self.assert_told(heap, lying, ends, shorts, [(3, "strange")], day=3)
        self.assert_told(heap, lying, ends, shorts, [(3, "strange")], day=BIG)

    def test_by_day_then_by_number(self):
        lade = ("lade", "mill", "east", "pears", 0, 4)
        sell = ("sell", "east", "pears", 0, 4)
        done = ([("mill", "pears", [(5, 9)])], [("pears", "sold", [(0, 4)])])
        missed = ([("east", "pears", [(0, 4)]), ("mill", "pears", [(5, 9)])], [])
        for heap, (lying, ends), shorts in [
                ([PACK, (1, 11, lade), (1, 12, sell)], done, []),
                ([PACK, (1, 12, lade), (1, 11, sell)], missed, [(11, [(0, 4)])]),
                # The number counts within a day alone, and by its worth, not as it is written.
                ([PACK, (2, 5, lade), (3, 4, sell)], done, []),
                ([PACK, (3, 4, lade), (2, 5, sell)], missed, [(5, [(0, 4)])]),
                ([PACK, (2, 9, lade), (2, 10, sell)], done, []),
                ([PACK, (9, 7, lade), (10, 6, sell)], done, [])]:
            for order in itertools.permutations(heap):
                self.assert_told(list(order), lying, ends, shorts)
        heap = [PACK, (1, 9, lade), (0, 11, sell)]
        for order in itertools.permutations(heap):
            self.assert_told(list(order), [("mill", "pears", [(0, 9)])], [], [], [(11, "strange"), (9, "strange")])

    def test_each_word_of_an_idle_page(self):
        lying = [("mill", "pears", [(0, 9)])]
        self.assert_told(packed(("pack", "pears", 10, "mill")), lying, idle=[(1, "packed")])
        self.assert_told(packed(("pack", "pears", 3, "east")), lying, idle=[(1, "packed")])
        for deed in [("lade", "mill", "east", "plums", 0, 3), ("sell", "mill", "plums", 0, 0),
                     ("back", "mill", "plums", 0, 0), ("tell", "mill", "plums", [(0, 3)]),
                     ("tell", "mill", "plums", []),
                     # Strange is due ahead of same.
                     ("lade", "mill", "mill", "plums", 0, 3), ("lade", "pears", "pears", "plums", 0, 3)]:
            self.assert_told(packed(deed), lying, idle=[(1, "strange")])
            self.assert_told(heap_of(deed, ("pack", "pears", 10, "mill")), lying, idle=[(0, "strange")])
        for deed in [("lade", "mill", "mill", "pears", 0, 3), ("lade", "east", "east", "pears", 0, 3),
                     ("lade", "mill", "mill", "pears", 50, 60)]:
            self.assert_told(packed(deed), lying, idle=[(1, "same")])
        # A name that is strange first is packed later all the same.
        self.assert_told(heap_of(("sell", "mill", "pears", 0, 1), ("pack", "pears", 2, "mill")),
                         [("mill", "pears", [(0, 1)])], idle=[(0, "strange")])

    def test_an_idle_pack_and_what_comes_behind_it(self):
        heap = packed(("pack", "pears", 20, "east"), ("sell", "east", "pears", 0, 3), ("sell", "mill", "pears", 8, 12),
                      ("pack", "pears", 30, "mill"), ("back", "mill", "pears", 20, 20))
        self.assert_told(heap, [("mill", "pears", [(0, 7)])], [("pears", "sold", [(8, 9)])],
                         [(2, [(0, 3)]), (3, [(10, 12)]), (5, [(20, 20)])], [(1, "packed"), (4, "packed")])

    def test_a_name_is_packed_once_though_none_of_it_lies_anywhere(self):
        heap = packed(("sell", "mill", "pears", 0, 9), ("pack", "pears", 3, "east"))
        self.assert_told(heap, [], [("pears", "sold", [(0, 9)])], [], [(2, "packed")])

    def test_lade_sell_back_of_all_some_and_none(self):
        for word, goal in [("lade", ("east",)), ("sell", ()), ("back", ())]:
            def deed(first, last):
                return (word, "mill", *goal, "pears", first, last)

            def assert_carried(first, last, carried, left, short, ahead=()):
                here = [("mill", "pears", left)] if left else []
                there = [("east", "pears", carried)] if word == "lade" and carried else []
                ends = [("pears", "sold" if word == "sell" else "back", carried)] if word != "lade" and carried else []
                heap = packed(*ahead, deed(first, last))
                self.assert_told(heap, there + here, ends, [(len(ahead) + 1, short)] if short else [])

            assert_carried(0, 9, [(0, 9)], [], [])
            assert_carried(3, 5, [(3, 5)], [(0, 2), (6, 9)], [])
            assert_carried(0, 0, [(0, 0)], [(1, 9)], [])
            assert_carried(9, 9, [(9, 9)], [(0, 8)], [])
            # Beyond the packed ones.
            assert_carried(8, 12, [(8, 9)], [(0, 7)], [(10, 12)])
            assert_carried(10, 10, [], [(0, 9)], [(10, 10)])
            assert_carried(0, BIG, [(0, 9)], [], [(10, BIG)])

    def test_lade_sell_back_of_cases_that_lie_elsewhere(self):
        away = [("lade", "mill", "west", "pears", 2, 3), ("sell", "mill", "pears", 4, 4),
                ("back", "mill", "pears", 5, 6), ("tell", "mill", "pears", [(0, 1), (8, 9)])]
        lying = [("mill", "pears", [(0, 1), (8, 9)]), ("west", "pears", [(2, 3)])]
        ends = [("pears", "back", [(5, 6)]), ("pears", "lacking", [(7, 7)]), ("pears", "sold", [(4, 4)])]
        self.assert_told(packed(*away), lying, ends)
        self.assert_told(packed(*away, ("sell", "mill", "pears", 1, 12)), [("mill", "pears", [(0, 0)]), lying[1]],
                         ends[:2] + [("pears", "sold", [(1, 1), (4, 4), (8, 9)])], [(5, [(2, 7), (10, 12)])])
        self.assert_told(packed(*away, ("back", "mill", "pears", 1, 12)), [("mill", "pears", [(0, 0)]), lying[1]],
                         [("pears", "back", [(1, 1), (5, 6), (8, 9)]), *ends[1:]], [(5, [(2, 7), (10, 12)])])
        self.assert_told(packed(*away, ("lade", "mill", "west", "pears", 1, 12)),
                         [("mill", "pears", [(0, 0)]), ("west", "pears", [(1, 3), (8, 9)])], ends,
                         [(5, [(2, 7), (10, 12)])])
        # All of it short: the page is done all the same.
        for deed in [("sell", "mill", "pears", 2, 7), ("back", "none", "pears", 2, 7),
                     ("lade", "east", "mill", "pears", 2, 7), ("lade", "west", "mill", "pears", 4, 7)]:
            short = [(deed[-2], deed[-1])]
            self.assert_told(packed(*away, deed), lying, ends, [(5, short)])
        self.assert_told(packed(*away, ("lade", "west", "mill", "pears", 0, 3)), [("mill", "pears", [(0, 3), (8, 9)])],
                         ends, [(5, [(0, 1)])])

    def test_tell_of_none_and_of_all(self):
        lying = [("mill", "pears", [(0, 9)])]
        self.assert_told(packed(("tell", "mill", "pears", [])), [], [("pears", "lacking", [(0, 9)])])
        self.assert_told(packed(("tell", "mill", "pears", [(0, 9)])), lying)
        self.assert_told(packed(("tell", "east", "pears", [])), lying)
        self.assert_told(packed(("tell", "mill", "pears", [(0, 3), (5, 8)])), [("mill", "pears", [(0, 3), (5, 8)])],
                         [("pears", "lacking", [(4, 4), (9, 9)])])

    def test_tell_of_cases_that_there_are_not_or_that_lie_with_others(self):
        self.assert_told(packed(("tell", "mill", "pears", [(0, 12)])), [("mill", "pears", [(0, 9)])], [],
                         [(1, [(10, 12)])])
        self.assert_told(packed(("tell", "mill", "pears", [(20, BIG)])), [], [("pears", "lacking", [(0, 9)])],
                         [(1, [(20, BIG)])])
        self.assert_told(packed(("tell", "east", "pears", [(0, 12)])), [("mill", "pears", [(0, 9)])], [],
                         [(1, [(0, 12)])])
        lade = ("lade", "mill", "east", "pears", 0, 4)
        self.assert_told(packed(lade, ("tell", "mill", "pears", [(4, 6)])),
                         [("east", "pears", [(0, 4)]), ("mill", "pears", [(5, 6)])],
                         [("pears", "lacking", [(7, 9)])], [(2, [(4, 4)])])

    def test_tell_of_cases_that_were_sold_or_are_back(self):
        self.assert_told(packed(("sell", "mill", "pears", 0, 1), ("back", "mill", "pears", 8, 9),
                                ("tell", "mill", "pears", [(1, 3), (8, 8)]),
                                ("tell", "east", "pears", [(0, 0), (9, 9)])),
                         [("mill", "pears", [(2, 3)])],
                         [("pears", "back", [(8, 9)]), ("pears", "lacking", [(4, 7)]), ("pears", "sold", [(0, 1)])],
                         [(3, [(1, 1), (8, 8)]), (4, [(0, 0), (9, 9)])])

    def test_tell_of_cases_that_lack(self):
        lost = ("tell", "mill", "pears", [(0, 4)])
        # With whoever they lay they lie with who tells of them.
        self.assert_told(packed(lost, ("tell", "east", "pears", [(7, 8)])),
                         [("east", "pears", [(7, 8)]), ("mill", "pears", [(0, 4)])],
                         [("pears", "lacking", [(5, 6), (9, 9)])])
        self.assert_told(packed(lost, ("tell", "mill", "pears", [(0, 9)])), [("mill", "pears", [(0, 9)])])
        # Found, and at once others lack, and some are short.
        self.assert_told(packed(lost, ("tell", "mill", "pears", [(1, 1), (4, 7), (12, 12)])),
                         [("mill", "pears", [(1, 1), (4, 7)])],
                         [("pears", "lacking", [(0, 0), (2, 3), (8, 9)])], [(2, [(12, 12)])])
        # Of several pages by which they lack.
        self.assert_told(packed(lost, ("tell", "mill", "pears", [(0, 1)]), ("tell", "west", "pears", [(1, 8)])),
                         [("mill", "pears", [(0, 1)]), ("west", "pears", [(2, 8)])],
                         [("pears", "lacking", [(9, 9)])], [(3, [(1, 1)])])

    def test_lacking_found_lacking_again_and_laded_on(self):
        heap = packed(("tell", "mill", "pears", []), ("tell", "east", "pears", [(2, 5)]),
                      ("tell", "east", "pears", [(2, 3)]), ("lade", "east", "west", "pears", 3, 4),
                      ("tell", "west", "pears", [(3, 4)]), ("sell", "west", "pears", 4, 5),
                      ("back", "east", "pears", 2, 2))
        self.assert_told(heap, [("mill", "pears", [(0, 9)])], day=0)
        self.assert_told(heap, [], [("pears", "lacking", [(0, 9)])], day=1)
        self.assert_told(heap, [("east", "pears", [(2, 5)])], [("pears", "lacking", [(0, 1), (6, 9)])], day=2)
        self.assert_told(heap, [("east", "pears", [(2, 3)])], [("pears", "lacking", [(0, 1), (4, 9)])], day=3)
        lying = [("east", "pears", [(2, 2)]), ("west", "pears", [(3, 3)])]
        self.assert_told(heap, lying, [("pears", "lacking", [(0, 1), (4, 9)])], [(4, [(4, 4)])], day=4)
        lying = [("east", "pears", [(2, 2)]), ("west", "pears", [(3, 4)])]
        self.assert_told(heap, lying, [("pears", "lacking", [(0, 1), (5, 9)])], [(4, [(4, 4)])], day=5)
        self.assert_told(heap, [("west", "pears", [(3, 3)])],
                         [("pears", "back", [(2, 2)]), ("pears", "lacking", [(0, 1), (5, 9)]),
                          ("pears", "sold", [(4, 4)])],
                         [(4, [(4, 4)]), (6, [(5, 5)])], day=7)

    def test_a_tell_leaves_other_names_alone(self):
        heap = packed(("pack", "plums", 4, "mill"), ("tell", "mill", "plums", [(0, 1)]),
                      ("tell", "mill", "pears", [(0, 2)]))
        self.assert_told(heap, [("mill", "pears", [(0, 9)]), ("mill", "plums", [(0, 1)])],
                         [("plums", "lacking", [(2, 3)])], day=2)
        self.assert_told(heap, [("mill", "pears", [(0, 2)]), ("mill", "plums", [(0, 1)])],
                         [("pears", "lacking", [(3, 9)]), ("plums", "lacking", [(2, 3)])], day=3)
        # Nor does it find cases of another name that lack.
        self.assert_told(heap + [(4, 4, ("tell", "mill", "pears", [(0, 3)]))],
                         [("mill", "pears", [(0, 3)]), ("mill", "plums", [(0, 1)])],
                         [("pears", "lacking", [(4, 9)]), ("plums", "lacking", [(2, 3)])])

    def test_lying_by_holder_then_name_and_ends_by_name_then_word(self):
        names = ["zz", "b", "ab", "a"]
        deeds = [("pack", name, 9, "mill") for name in names]
        for name in names:
            deeds += [("lade", "mill", "zoe", name, 0, 0), ("lade", "mill", "anna", name, 1, 1),
                      ("lade", "mill", "ann", name, 2, 2), ("sell", "mill", name, 3, 3), ("back", "mill", name, 4, 4),
                      ("tell", "mill", name, [(6, 8)])]
        lying = [(holder, name, some) for holder, some in
                 [("ann", [(2, 2)]), ("anna", [(1, 1)]), ("mill", [(6, 8)]), ("zoe", [(0, 0)])]
                 for name in ("a", "ab", "b", "zz")]
        ends = [(name, word, some) for name in ("a", "ab", "b", "zz")
                for word, some in [("back", [(4, 4)]), ("lacking", [(5, 5)]), ("sold", [(3, 3)])]]
        self.assert_told(heap_of(*deeds), lying, ends)

    def test_shorts_and_idle_as_pages_are_gone_through(self):
        heap = [(2, 1, ("sell", "east", "pears", 0, 0)), (1, 30, ("sell", "west", "pears", 1, 1)), PACK,
                (2, 0, ("sell", "east", "pears", 2, 2)), (1, 9, ("lade", "east", "east", "plums", 3, 3)),
                (3, 3, ("pack", "pears", 1, "east")), (3, 2, ("lade", "west", "west", "pears", 3, 3)),
                (1, 11, ("lade", "east", "east", "pears", 3, 3)), (0, 40, ("tell", "east", "pears", []))]
        shorts = [(30, [(1, 1)]), (0, [(2, 2)]), (1, [(0, 0)])]
        idle = [(40, "strange"), (9, "strange"), (11, "same"), (2, "same"), (3, "packed")]
        self.assert_told(heap, [("mill", "pears", [(0, 9)])], [], shorts, idle)

    def test_words_of_deeds_as_names(self):
        heap = heap_of(("pack", "lade", 5, "tell"), ("lade", "tell", "sell", "lade", 0, 2),
                       ("sell", "sell", "lade", 0, 0), ("back", "tell", "lade", 4, 4),
                       ("tell", "sell", "lade", [(1, 1)]), ("pack", "lying", 2, "back"), ("sell", "sell", "sell", 0, 0))
        self.assert_told(heap, [("back", "lying", [(0, 1)]), ("sell", "lade", [(1, 1)]), ("tell", "lade", [(3, 3)])],
                         [("lade", "back", [(4, 4)]), ("lade", "lacking", [(2, 2)]), ("lade", "sold", [(0, 0)])],
                         [], [(6, "strange")])

    def test_great_numbers(self):
        many = 10 * BIG
        heap = [(BIG, BIG, ("pack", "pears", many, "mill")),
                (BIG, BIG + 1, ("lade", "mill", "east", "pears", BIG, 3 * BIG)),
                (BIG + 1, 0, ("sell", "mill", "pears", 2 * BIG, 4 * BIG)),
                (BIG + 2, 2 * BIG, ("tell", "mill", "pears", [(5, 6), (BIG, BIG), (9 * BIG, 11 * BIG)])),
                (2 * BIG, 7, ("tell", "east", "pears", [(2 * BIG, 3 * BIG), (8 * BIG, 8 * BIG)])),
                (3 * BIG, 8, ("back", "east", "pears", 3 * BIG, 9 * BIG))]
        self.assert_told(heap, [], day=BIG - 1)
        lying = [("east", "pears", [(BIG, 3 * BIG)]), ("mill", "pears", [(0, BIG - 1), (3 * BIG + 1, many - 1)])]
        self.assert_told(heap, lying, day=BIG)
        self.assert_told(
            heap,
            [("east", "pears", [(2 * BIG, 3 * BIG - 1)]), ("mill", "pears", [(5, 6), (9 * BIG, many - 1)])],
            [("pears", "back", [(3 * BIG, 3 * BIG), (8 * BIG, 8 * BIG)]),
             ("pears", "lacking", [(0, 4), (7, 2 * BIG - 1), (4 * BIG + 1, 8 * BIG - 1), (8 * BIG + 1, 9 * BIG - 1)]),
             ("pears", "sold", [(3 * BIG + 1, 4 * BIG)])],
            [(0, [(2 * BIG, 3 * BIG)]), (2 * BIG, [(BIG, BIG), (many, 11 * BIG)]),
             (8, [(3 * BIG + 1, 8 * BIG - 1), (8 * BIG + 1, 9 * BIG)])], day=BIG * BIG)

    def test_sixty_pages_of_twelve_names(self):
        names = ["n" + sign for sign in "abcdefghijkl"]
        holders = ["h" + sign for sign in "abcdef"]
        heap = [(0, k, ("pack", name, 10 * BIG, "ha")) for k, name in enumerate(names)]
        heap += [(k, 100 + k, ("lade", holders[k % 6], holders[(k + 1) % 6], names[k % 12], BIG, 9 * BIG - k))
                 for k in range(24)]
        heap += [(30 + k, 50 + k, ("tell", holders[k % 6], names[k % 12], [(k, BIG + k)])) for k in range(24)]
        self.assertEqual(len(heap), 60)
        told = holds_to_point_two(self, standing, heap, 99)
        self.assertEqual(standing(heap[::-1], 99), told)
        for name in names:
            sets = [row[2] for row in told[0] if row[1] == name] + [row[2] for row in told[1] if row[0] == name]
            self.assertEqual(sum(last - first + 1 for some in sets for first, last in some), 10 * BIG)

    def test_against_a_going_case_by_case(self):
        rng = random.Random(14)
        seen = set()
        for _ in range(1500):
            heap = small_heap(rng)
            for day in (rng.randint(0, 6), 6):
                tried = CaseByCase(heap, day)
                told = standing(heap, day)
                self.assertEqual(told, tried.standing(), (heap, day))
                # Each packed case is told just once.
                cases = [(name, case) for _, name, some in told[0] for case in members(some)]
                cases += [(name, case) for name, _, some in told[1] for case in members(some)]
                self.assertEqual(sorted(cases), sorted(tried.where))
                self.assertTrue(all(is_set(row[2]) and row[2] for row in told[0] + told[1]))
                self.assertTrue(all(is_set(row[1]) and row[1] for row in told[2]))
                seen |= {word for _, word in told[3]} | {word for _, word, _ in told[1]}
            for order in in_orders(rng, heap):
                self.assertEqual(standing(order, 6), told)
        self.assertEqual(seen, {"packed", "strange", "same", "back", "lacking", "sold"})

    def test_changed_lists_are_answered_as_they_are_then(self):
        cases = [(0, 9)]
        heap = [(2, 2, ("tell", "mill", "pears", cases)), PACK]
        self.assertEqual(standing(heap, 9), ([("mill", "pears", [(0, 9)])], [], [], []))
        cases[0] = (3, 9)
        self.assertEqual(standing(heap, 9), ([("mill", "pears", [(3, 9)])], [("pears", "lacking", [(0, 2)])], [], []))
        cases.clear()
        self.assertEqual(standing(heap, 9), ([], [("pears", "lacking", [(0, 9)])], [], []))
        heap.append((1, 11, ("sell", "mill", "pears", 5, 9)))
        told = ([], [("pears", "lacking", [(0, 4)]), ("pears", "sold", [(5, 9)])], [], [])
        self.assertEqual(standing(heap, 9), told)
        heap.pop(1)
        self.assertEqual(standing(heap, 9), ([], [], [], [(11, "strange"), (2, "strange")]))


if __name__ == "__main__":
    unittest.main()

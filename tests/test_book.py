"""[18], [19] a Book: its deeds, its refusals, undo, and what it tells."""

import copy
import inspect
import unittest

from tests.helper import BIG, holds_to_point_two, lists_in, spoil, tupled
from tinrecall.book import Book
from tinrecall.errors import (
    BadReading, NoBatch, NoCase, NoDeed, NoPacking, NoPage, NoTest, NoTin, RecallError, Taken, Twice)
from tinrecall.ladings import standing
from tinrecall.recalls import recall
from tinrecall.suspects import suspects

ONE = ("abcd", 10, [("line", "filler", 0, 1, 1), ("racks", "cooker", 4, [(20, 29), (30, 39), (25, 44)])])
TWO = ("wxyz", 6, [("racks", "cooker", 3, [(0, 10), (40, 50)])])
BARE = ("mm00", 5, [])
NORTH = ("north", 3, [("abcd", 0, 7), ("wxyz", 0, 1)])      # Cases: abcd 0..2, 3..5, 6..7 and wxyz 0, wxyz 1.
SOUTH = ("south", 2, [("wxyz", 2, 5), ("mm00", 0, 0)])
EMPTY = ("empty", 2, [])
PACK = (1, 5, ("pack", "north", 4, "mill"))
SELL = (2, 3, ("sell", "mill", "north", 1, 1))
TELL = (2, 4, ("tell", "mill", "north", [(0, 0), (3, 3)]))

METHODS = {
    "add_batch": ["batch"], "add_packing": ["packing"], "add_test": ["mark", "tin", "word"], "add_fault": ["fault"],
    "say": ["page"], "unsay": ["number"], "undo": [], "find": ["reading", "slips"], "suspected": [], "called": [],
    "heap": [], "called_back": ["day"], "known": ["many", "day"], "tins_of": ["name", "case"],
}


def filled():
    """A Book with some of everything."""
    book = Book()
    for batch in (ONE, TWO, BARE):
        book.add_batch(batch)
    for packing in (SOUTH, NORTH):
        book.add_packing(packing)
    book.add_test("wxyz", 4, "bad")
    book.add_test("abcd", 9, "good")
    book.add_fault(("filler", 1, 2, []))
    for page in (TELL, PACK, SELL):
        book.say(page)
    return book


FILLED = 11


def told_of(book, days=(0, 1, 2, 9)):
    """All that a Book tells but known."""
    told = [book.find("*", 0), book.called(), book.heap(), [book.called_back(day) for day in days]]
    for ask, *handed in [(book.suspected,), (book.tins_of, "north", 0), (book.tins_of, "south", 1),
                         (book.tins_of, "west", 0)]:
        try:
            told.append(ask(*handed))
        except RecallError as refusal:
            told.append(type(refusal))
    return told


def deeds_done(book):
    """How many deeds a Book knows of."""
    for many in range(1000):
        try:
            book.known(many, 0)
        except NoDeed:
            return many - 1
    raise AssertionError("known is never refused")


class InterfaceTest(unittest.TestCase):
    def test_each_method_stands_in_the_class_itself(self):
        for name, wanted in METHODS.items():
            with self.subTest(name):
                parameters = list(inspect.signature(vars(Book)[name]).parameters.values())
                self.assertEqual([one.name for one in parameters[1:]], wanted)
                self.assertTrue(all(one.default is one.empty for one in parameters))

    def test_none_at_first(self):
        book = Book()
        self.assertEqual((book.find("*", BIG), book.called(), book.heap()), ([], [], []))
        self.assertEqual((book.called_back(9), book.known(0, 9)), (([], []), ([], [])))


class RefusalTest(unittest.TestCase):
    def assert_refused(self, book, refusal, deed, *handed):
        """Holds a refusal against its class, and that it changes nothing and is no deed."""
        before, many, given = told_of(book), deeds_done(book), copy.deepcopy(handed)
        with self.assertRaises(RecallError) as caught:
            deed(*handed)
        self.assertIs(type(caught.exception), refusal, handed)
        self.assertEqual(handed, given)
        self.assertEqual(told_of(book), before)
        self.assertEqual(deeds_done(book), many)

    def test_add_batch(self):
        book = filled()
        for batch in (ONE, ("abcd", 99, []), ("mm00", 1, [("line", "new", 0, 0, 1)])):
            self.assert_refused(book, Taken, book.add_batch, batch)
        self.assertIsNone(book.add_batch(("abce", 10, ONE[2])))
        self.assertEqual(book.find("*", 0), ["abcd", "wxyz", "mm00", "abce"])

    def test_add_packing(self):
        book = filled()
        cases = [
            # Its name is taken, whatever else is due.
            (Taken, ("north", 1, [("abcd", 8, 9)])),
            (Taken, ("south", 1, [("none", 0, 0), ("abcd", 0, 99), ("abcd", 0, 1)])),
            (Taken, ("north", 1, [])),
            # A mark that isn't there, in any part, whatever else is due behind it.
            (NoBatch, ("west", 1, [("none", 0, 0)])),
            (NoBatch, ("west", 1, [("abcd", 8, 8), ("none", 0, 0)])),
            (NoBatch, ("west", 1, [("abcd", 8, 10), ("none", 0, 0)])),
            (NoBatch, ("west", 1, [("abcd", 0, BIG), ("abcd", 0, 0), ("abcde", 0, 0), ("wxyz", 0, 9)])),
            (NoBatch, ("west", 1, [("none", 0, 0), ("abcd", 0, 99)])),
            # A tin that its batch hasn't, in any part, ahead of one that stands twice.
            (NoTin, ("west", 1, [("abcd", 8, 10)])),
            (NoTin, ("west", 1, [("abcd", 10, 10)])),
            (NoTin, ("west", 1, [("mm00", 1, 1), ("mm00", 3, 5)])),
            (NoTin, ("west", 1, [("mm00", 1, 1), ("mm00", 1, 1), ("mm00", BIG, BIG)])),
            (NoTin, ("west", 1, [("abcd", 0, 7), ("mm00", 4, 5)])),
            (NoTin, ("west", 1, [("mm00", 5, 5), ("abcd", 0, 7)])),
            # Twice, in itself and with those there.
            (Twice, ("west", 1, [("abcd", 8, 8), ("abcd", 8, 8)])),
            (Twice, ("west", 1, [("mm00", 1, 3), ("abcd", 8, 9), ("mm00", 3, 4)])),
            (Twice, ("west", 1, [("abcd", 7, 9)])),
            (Twice, ("west", 1, [("abcd", 8, 9), ("wxyz", 2, 2)])),
            (Twice, ("west", 5, [("mm00", 0, 4)])),
        ]
        for refusal, packing in cases:
            with self.subTest(packing):
                self.assert_refused(book, refusal, book.add_packing, packing)
        for packing in [("west", 1, [("abcd", 8, 9), ("mm00", 1, 2)]), ("east", 1, [("mm00", 4, 4), ("mm00", 3, 3)]),
                        EMPTY, ("none", 9, [])]:
            self.assertIsNone(book.add_packing(packing))
            self.assert_refused(book, Taken, book.add_packing, packing)
        self.assert_refused(book, Twice, book.add_packing, ("far", 1, [("mm00", 3, 3)]))
        empty = Book()
        self.assert_refused(empty, NoBatch, empty.add_packing, ("far", 1, [("mm00", 3, 3)]))

    def test_add_test(self):
        book = filled()
        cases = [(NoBatch, "none", 0), (NoBatch, "none", BIG), (NoTin, "abcd", 10), (NoTin, "abcd", BIG),
                 (NoTin, "wxyz", 6), (NoTin, "mm00", 5), (Taken, "wxyz", 4), (Taken, "abcd", 9)]
        for refusal, mark, tin in cases:
            for word in ("bad", "good"):
                with self.subTest((mark, tin, word)):
                    self.assert_refused(book, refusal, book.add_test, mark, tin, word)
        for mark, tin, word in [("abcd", 4, "good"), ("wxyz", 5, "good"), ("mm00", 4, "good"), ("abcd", 0, "good")]:
            self.assertIsNone(book.add_test(mark, tin, word))
            self.assert_refused(book, Taken, book.add_test, mark, tin, "bad")

    def test_add_fault(self):
        book = filled()
        for fault in [("nowhere", 0, BIG, []), ("filler", 1, 2, []), ("filler", 1, 2, []), ("cooker", 3, 3, [7, 7, 0])]:
            self.assertIsNone(book.add_fault(fault))
        self.assertEqual(deeds_done(book), FILLED + 4)
        self.assertIsNone(Book().add_fault(("nowhere", 0, 0, [1])))

    def test_say_and_unsay(self):
        book = filled()
        for page in (PACK, (9, 5, ("tell", "mill", "north", [])), (0, 3, SELL[2])):
            self.assert_refused(book, Taken, book.say, page)
        for number in (0, 1, 6, BIG):
            self.assert_refused(book, NoPage, book.unsay, number)
        self.assertIsNone(book.say((1, BIG, SELL[2])))
        self.assertIsNone(book.unsay(5))
        self.assert_refused(book, NoPage, book.unsay, 5)
        self.assertEqual(book.heap(), [(1, BIG, SELL[2]), SELL, TELL])
        # The number is free again.
        self.assertIsNone(book.say((7, 5, SELL[2])))
        self.assert_refused(book, Taken, book.say, PACK)
        self.assertIsNone(book.unsay(BIG))
        self.assertEqual(book.heap(), [SELL, TELL, (7, 5, SELL[2])])
        # A page is said though its packing isn't there.
        self.assertIsNone(Book().say(PACK))
        empty = Book()
        self.assert_refused(empty, NoPage, empty.unsay, 0)

    def test_undo_of_none(self):
        book = Book()
        self.assert_refused(book, NoDeed, book.undo)
        book.add_batch(ONE)
        self.assertIsNone(book.undo())
        self.assert_refused(book, NoDeed, book.undo)
        self.assertEqual(deeds_done(book), 2)

    def test_asks(self):
        book = filled()
        for reading in ("", "A", "[a]", "[aa]", "a b", "ab]", "[abcdefg]"):
            self.assert_refused(book, BadReading, book.find, reading, 0)
        for name, case in [("none", 0), ("none", BIG), ("abcd", 0)]:
            self.assert_refused(book, NoPacking, book.tins_of, name, case)
        for name, case in [("north", 4), ("south", 3), ("north", BIG)]:
            self.assert_refused(book, NoCase, book.tins_of, name, case)
        book.add_packing(EMPTY)
        self.assert_refused(book, NoCase, book.tins_of, "empty", 0)
        for many in (FILLED + 2, FILLED + 3, BIG):
            self.assert_refused(book, NoDeed, book.known, many, 1)
        empty = Book()
        self.assert_refused(empty, NoTest, empty.suspected)
        self.assert_refused(empty, NoDeed, empty.known, 1, 1)


class UndoTest(unittest.TestCase):
    DEEDS = [
        ("add_batch", ("abce", 3, [("line", "filler", 4, 1, 1)])), ("add_packing", ("west", 2, [("abcd", 8, 9)])),
        ("add_test", "wxyz", 5, "good"), ("add_test", "wxyz", 0, "bad"), ("add_fault", ("filler", 4, 7, [])),
        ("say", (2, 1, ("lade", "mill", "east", "north", 0, 2))), ("unsay", 5), ("unsay", 4),
    ]

    def test_of_each_kind_of_deed(self):
        for name, *handed in self.DEEDS:
            with self.subTest(name):
                book = filled()
                before = told_of(book)
                self.assertIsNone(getattr(book, name)(*handed))
                after = told_of(book)
                self.assertNotEqual(after, before)
                self.assertIsNone(book.undo())
                self.assertEqual(told_of(book), before)
                # What it took is free again.
                getattr(book, name)(*handed)
                self.assertEqual(told_of(book), after)

    def test_several_behind_one_another_down_to_none(self):
        book = filled()
        stages = [told_of(book)]
        for name, *handed in self.DEEDS:
            getattr(book, name)(*handed)
            stages.append(told_of(book))
        for stage in stages[-2::-1]:
            book.undo()
            self.assertEqual(told_of(book), stage)
        for _ in range(FILLED):
            book.undo()
        self.assertEqual(told_of(book), told_of(Book()))
        for _ in range(2):
            with self.assertRaises(NoDeed):
                book.undo()
        # All is free again, and deeds behind undos are taken back like others.
        for name, *handed in [("add_batch", ONE), ("add_batch", TWO), ("add_packing", NORTH), ("say", PACK)]:
            getattr(book, name)(*handed)
        book.undo()
        self.assertEqual(book.heap(), [])
        book.undo()
        with self.assertRaises(NoPacking):
            book.tins_of("north", 0)
        self.assertEqual(book.find("*", 0), ["abcd", "wxyz"])

    def test_undo_itself_is_not_taken_back(self):
        book = Book()
        for batch in (ONE, TWO, BARE):
            book.add_batch(batch)
        book.undo()
        book.undo()
        self.assertEqual(book.find("*", 0), ["abcd"])
        book.add_batch(BARE)
        book.undo()
        book.undo()
        self.assertEqual(book.find("*", 0), [])
        with self.assertRaises(NoDeed):
            book.undo()

    def test_a_refused_deed_is_none_that_is_taken_back(self):
        book = Book()
        book.add_batch(ONE)
        book.add_batch(TWO)
        for deed, *handed in [(book.add_batch, ONE), (book.add_packing, ("west", 1, [("none", 0, 0)])), (book.unsay, 3),
                              (book.add_test, "none", 0, "bad"), (book.tins_of, "none", 0), (book.suspected,)]:
            with self.assertRaises(RecallError):
                deed(*handed)
        book.undo()
        self.assertEqual(book.find("*", 0), ["abcd"])

    def test_unsay_undone(self):
        book = filled()
        book.unsay(4)
        book.unsay(5)
        self.assertEqual(book.heap(), [SELL])
        book.undo()
        self.assertEqual(book.heap(), [PACK, SELL])
        with self.assertRaises(Taken):
            book.say(PACK)
        book.undo()
        self.assertEqual(book.heap(), [PACK, SELL, TELL])
        # Of a number that was said, unsaid and said again the last page is there.
        book.unsay(3)
        book.say((9, 3, ("tell", "east", "north", [])))
        book.undo()
        book.undo()
        self.assertEqual(book.heap(), [PACK, SELL, TELL])

    def test_what_was_taken_back_is_not_seen_by_refusals(self):
        book = Book()
        book.add_batch(ONE)
        book.add_test("abcd", 3, "bad")
        book.undo()
        book.add_test("abcd", 3, "good")
        book.undo()
        book.add_packing(("west", 1, [("abcd", 0, 4)]))
        book.undo()
        book.add_packing(("west", 1, [("abcd", 4, 9)]))
        book.undo()
        book.undo()
        with self.assertRaises(NoBatch):
            book.add_test("abcd", 3, "good")
        book.add_batch(("abcd", 2, []))
        with self.assertRaises(NoTin):
            book.add_test("abcd", 3, "good")


class AsksTest(unittest.TestCase):
    def test_find(self):
        book = Book()
        for mark in ("wxyz", "abcd", "abce", "abcd0", "aacd"):
            book.add_batch((mark, 1, []))
        self.assertEqual(book.find("*", 0), ["wxyz", "abcd", "abce", "abcd0", "aacd"])
        self.assertEqual(book.find("a[ab]cd", 0), ["abcd", "aacd"])
        self.assertEqual(book.find("abcd", 1), ["abcd", "abce", "aacd"])
        self.assertEqual(book.find("abcd*", 0), ["abcd", "abcd0"])
        self.assertEqual(book.find("????", BIG), ["wxyz", "abcd", "abce", "aacd"])
        self.assertEqual(book.find("???", BIG), [])
        book.undo()
        book.undo()
        self.assertEqual(book.find("a*", 0), ["abcd", "abce"])

    def test_suspected(self):
        book = Book()
        book.add_batch(TWO)
        book.add_batch(ONE)
        with self.assertRaises(NoTest):
            book.suspected()
        book.add_test("abcd", 0, "good")
        with self.assertRaises(NoTest):
            book.suspected()
        book.add_test("abcd", 9, "bad")
        tests = [("abcd", 0, "good"), ("abcd", 9, "bad")]
        self.assertEqual(book.suspected(), suspects([TWO, ONE], tests))
        self.assertEqual(book.suspected(), [("cooker", 30, None, 44, 30), ("filler", 1, None, 9, 9)])
        book.add_test("wxyz", 0, "bad")
        self.assertEqual(book.suspected(), [])
        book.undo()
        book.undo()
        with self.assertRaises(NoTest):
            book.suspected()

    def test_called(self):
        book = Book()
        for batch in (ONE, TWO, BARE):
            book.add_batch(batch)
        for packing in (SOUTH, EMPTY, NORTH):
            book.add_packing(packing)
        self.assertEqual(book.called(), [])
        # By good tests alone none.
        book.add_test("abcd", 9, "good")
        self.assertEqual(book.called(), [])
        # By faults alone.
        book.add_fault(("filler", 5, 6, []))
        self.assertEqual(book.called(), [("north", [(1, 2)])])
        book.add_fault(("cooker", 50, 60, []))
        self.assertEqual(book.called(), [("north", [(1, 2)]), ("south", [(0, 1)])])
        book.add_fault(("nowhere", 0, BIG, []))
        self.assertEqual(book.called(), [("north", [(1, 2)]), ("south", [(0, 1)])])
        book.undo()
        book.undo()
        # By both: at the filler up to 8, or at the cooker up to 24.
        book.add_test("abcd", 0, "bad")
        self.assertEqual(book.suspected(), [("cooker", 0, 24, 24, 20), ("filler", 0, 8, 0, 0)])
        self.assertEqual(book.called(), [("north", [(0, 3)]), ("south", [(0, 0)])])
        book.undo()
        book.undo()
        # By tests alone.
        self.assertEqual(book.called(), [])
        book.add_test("wxyz", 4, "bad")
        self.assertEqual(book.suspected(), [("cooker", 45, None, 50, 45)])
        self.assertEqual(book.called(), [("south", [(0, 1)])])
        # By tests that no fault fits, and by a fault besides.
        book.add_test("mm00", 0, "bad")
        self.assertEqual((book.suspected(), book.called()), ([], []))
        book.add_fault(("filler", 0, 0, []))
        self.assertEqual(book.called(), [("north", [(0, 0)])])

    def test_one_mark_by_faults_and_by_tests(self):
        book = Book()
        book.add_batch(("abcd", 9, [("racks", "here", 3, [(0, 3), (10, 12), (20, 23)]), ("line", "there", 50, 1, 1)]))
        book.add_packing(("west", 1, [("abcd", 0, 8)]))
        book.add_fault(("there", 57, 57, []))
        book.add_test("abcd", 4, "bad")
        book.add_test("abcd", 0, "good")
        book.add_test("abcd", 6, "good")
        self.assertEqual(book.suspected(), [("here", 4, 19, 12, 10), ("there", 51, 55, 54, 54)])
        self.assertEqual(book.called(), [("west", [(1, 5), (7, 7)])])
        book.undo()
        book.undo()
        book.undo()
        self.assertEqual(book.called(), [("west", [(7, 7)])])

    def test_heap(self):
        book = filled()
        self.assertEqual(book.heap(), [PACK, SELL, TELL])
        book.say((2, BIG, SELL[2]))
        book.say((2, 0, SELL[2]))
        book.say((0, 99, SELL[2]))
        book.say((10, 1, SELL[2]))
        self.assertEqual([page[:2] for page in book.heap()],
                         [(0, 99), (1, 5), (2, 0), (2, 3), (2, 4), (2, BIG), (10, 1)])
        self.assertEqual(standing(book.heap(), 2), standing(book.heap()[::-1], 2))

    def test_what_is_shown_in_round_brackets_is_a_tuple_and_sets_are_lists(self):
        book = Book()
        for page in (PACK, SELL, TELL, (3, 9, ("tell", "mill", "north", ())), (4, 8, ("lade", "a", "b", "c", 0, 1))):
            book.say(tupled(page))
        self.assertEqual(book.heap(), [PACK, SELL, TELL, (3, 9, ("tell", "mill", "north", [])),
                                       (4, 8, ("lade", "a", "b", "c", 0, 1))])
        for page in book.heap():
            self.assertIs(type(page), tuple)
            self.assertIs(type(page[2]), tuple)
            if page[2][0] == "tell":
                self.assertIs(type(page[2][3]), list)

    def test_called_back(self):
        book = filled()
        called = book.called()
        self.assertEqual(called, [("north", [(0, 0)]), ("south", [(0, 1)])])
        for day in (0, 1, 2, BIG):
            self.assertEqual(book.called_back(day), recall([PACK, SELL, TELL], day, called))
        self.assertEqual(book.called_back(2), (
            [("mill", "north", [(0, 0)])], [("north", 1, 0, 1, 0, 0, 0), ("south", 2, 2, 0, 0, 0, 0)]))
        book.add_fault(("filler", 3, 7, []))
        self.assertEqual(book.called_back(2), (
            [("mill", "north", [(0, 0)])], [("north", 3, 0, 1, 1, 0, 1), ("south", 2, 2, 0, 0, 0, 0)]))
        book.unsay(5)
        self.assertEqual(book.called_back(2), (
            [], [("north", 3, 3, 0, 0, 0, 0), ("south", 2, 2, 0, 0, 0, 0)]))

    def test_tins_of(self):
        book = filled()
        cases = [("north", 0, [("abcd", 0, 2)]), ("north", 2, [("abcd", 6, 7), ("wxyz", 0, 0)]),
                 ("north", 3, [("wxyz", 1, 1)]), ("south", 1, [("wxyz", 4, 5)]), ("south", 2, [("mm00", 0, 0)])]
        for name, case, told in cases:
            self.assertEqual(holds_to_point_two(self, book.tins_of, name, case), told)

    def test_each_ask_holds_to_point_two(self):
        book = filled()
        before = told_of(book)
        for ask, *handed in [(book.find, "*", 0), (book.suspected,), (book.called,), (book.heap,),
                             (book.called_back, 2), (book.known, FILLED, 2), (book.known, 4, 2),
                             (book.tins_of, "north", 2)]:
            self.assertTrue(holds_to_point_two(self, ask, *handed))
        self.assertEqual(told_of(book), before)
        self.assertEqual(deeds_done(book), FILLED)

    def test_great_numbers(self):
        book = Book()
        book.add_batch(("abcd", 100 * BIG, [("line", "filler", BIG, 1, 10), ("racks", "cooker", 50 * BIG, [
            (0, BIG), (2 * BIG, 3 * BIG)])]))
        book.add_packing(("north", BIG, [("abcd", 5, 60 * BIG)]))
        book.add_packing(("south", 1, [("abcd", 60 * BIG + 1, 100 * BIG - 1)]))
        book.add_fault(("filler", 5 * BIG, 6 * BIG - 1, []))
        book.say((BIG, BIG, ("pack", "north", 60, "mill")))
        book.say((BIG + 1, 0, ("sell", "mill", "north", 45, 47)))
        self.assertEqual(book.called(), [("north", [(39, 49)])])
        self.assertEqual(book.called_back(BIG * BIG), (
            [("mill", "north", [(39, 44), (48, 49)])], [("north", 11, 0, 8, 3, 0, 0)]))
        book.add_test("abcd", 99 * BIG, "bad")
        book.add_test("abcd", 3, "good")
        book.add_test("abcd", 80 * BIG, "good")
        # The filler from 9 BIG and one on: the tins from 80 BIG and 10 on.
        self.assertEqual(book.suspected(), [("filler", 9 * BIG + 1, None, BIG + 99 * BIG // 10, BIG + 99 * BIG // 10)])
        self.assertEqual(book.called(), [("north", [(39, 49)]), ("south", [(20 * BIG + 9, 40 * BIG - 2)])])
        self.assertEqual(book.tins_of("north", 1), [("abcd", BIG + 5, 2 * BIG + 4)])
        self.assertEqual(book.tins_of("south", 20 * BIG), [("abcd", 80 * BIG + 1, 80 * BIG + 1)])


class KnownTest(unittest.TestCase):
    def test_behind_each_deed(self):
        book, stages = Book(), []

        def done(name, *handed):
            getattr(book, name)(*handed)
            stages.append([book.called_back(day) for day in range(4)])

        stages.append([book.called_back(day) for day in range(4)])
        for name, *handed in [
                ("add_batch", ONE), ("add_batch", TWO), ("add_packing", NORTH), ("say", TELL),
                ("add_fault", ("filler", 4, 4, [])), ("say", PACK), ("undo",), ("add_fault", ("cooker", 0, 5, [])),
                ("say", PACK), ("add_test", "abcd", 9, "bad"),
                ("say", SELL), ("undo",), ("undo",), ("undo",), ("unsay", 4), ("undo",), ("undo",), ("add_batch", BARE),
                ("say", PACK), ("unsay", 5)]:
            done(name, *handed)
        self.assertGreater(len({str(stage) for stage in stages}), 6)
        for _ in range(2):
            for many, stage in enumerate(stages):
                self.assertEqual([book.known(many, day) for day in range(4)], stage, many)
            with self.assertRaises(NoDeed):
                book.known(len(stages), 3)
        self.assertEqual(book.known(0, 9), ([], []))
        # Asked again later, behind more deeds and refused ones, the same.
        for refused in (lambda: book.add_batch(ONE), lambda: book.unsay(77), lambda: book.suspected()):
            with self.assertRaises(RecallError):
                refused()
        with self.assertRaises(NoDeed):
            book.known(len(stages), 3)
        while book.find("*", 0):
            book.undo()
        for many, stage in enumerate(stages):
            self.assertEqual([book.known(many, day) for day in range(4)], stage, many)

    def test_undos_are_counted_and_refused_deeds_are_not(self):
        book = Book()
        book.add_batch(ONE)
        with self.assertRaises(Taken):
            book.add_batch(ONE)
        book.add_packing(NORTH[:2] + (NORTH[2][:1],))
        book.undo()
        book.add_packing(("west", 1, [("abcd", 0, 9)]))
        with self.assertRaises(NoBatch):
            book.add_test("none", 0, "bad")
        book.add_fault(("filler", 1, 1, []))
        self.assertEqual([book.known(many, 0)[1] for many in range(6)],
                         [[], [], [], [], [], [("west", 1, 1, 0, 0, 0, 0)]])
        with self.assertRaises(NoDeed):
            book.known(6, 0)

    def test_a_book_of_two_hundred_deeds(self):
        book, many, stages = Book(), 0, []
        book.add_batch(("abcd", 100, [("line", "belt", 0, 1, 1)]))
        book.add_packing(("west", 1, [("abcd", 0, 99)]))
        book.say((0, 0, ("pack", "west", 100, "mill")))
        for k in range(12):
            book.add_fault(("belt", 5 * k, 5 * k + 1, []))
        many = 15
        for k in range(46):
            book.say((k, 1 + k, ("sell", "mill", "west", k, k)))
            if k % 2:
                # A case is sold for good, another page is unsaid, and that is taken back.
                book.say((k, 500 + k, ("tell", "mill", "west", [(0, 99 - k)])))
                book.unsay(500 + k)
                book.undo()
            else:
                # Nothing is left of this.
                book.undo()
                book.say((k, 1 + k, ("back", "mill", "west", k, k)))
                book.unsay(1 + k)
            many += 4
            stages.append((many, book.called_back(BIG)))
        self.assertEqual(many, 199)
        self.assertEqual(len({str(stage) for _, stage in stages}), 11)
        book.undo()
        self.assertEqual(book.known(200, BIG), book.called_back(BIG))
        with self.assertRaises(NoDeed):
            book.known(201, BIG)
        for count, stage in stages:
            self.assertEqual(book.known(count, BIG), stage)
        self.assertEqual(book.known(15, 0)[1], [("west", 24, 0, 24, 0, 0, 0)])


class OwnTest(unittest.TestCase):
    def test_two_books_by_turns(self):
        one, other = Book(), Book()
        one.add_batch(ONE)
        self.assertEqual(other.find("*", 0), [])
        other.add_batch(ONE)
        other.add_batch(TWO)
        one.add_packing(("west", 1, [("abcd", 0, 9)]))
        one.say(PACK)
        other.say((3, 5, SELL[2]))
        with self.assertRaises(NoPacking):
            other.tins_of("west", 0)
        other.add_fault(("filler", 0, 9, []))
        self.assertEqual((one.called(), one.heap(), other.heap()), ([], [PACK], [(3, 5, SELL[2])]))
        one.undo()
        other.undo()
        other.undo()
        self.assertEqual((one.heap(), other.heap(), other.find("*", 0)), ([], [], ["abcd", "wxyz"]))
        other.undo()
        self.assertEqual((one.find("*", 0), other.find("*", 0)), (["abcd"], ["abcd"]))
        self.assertEqual((one.known(3, 0), other.known(7, 0)), (([], []), ([], [])))
        with self.assertRaises(NoDeed):
            one.known(5, 0)

    def test_what_is_handed_in_may_be_changed_behind(self):
        batches, packings = copy.deepcopy([ONE, TWO, BARE]), copy.deepcopy([SOUTH, NORTH])
        faults, pages = [("filler", 1, 2, []), ("cooker", 45, 45, [1])], copy.deepcopy([TELL, PACK, SELL])
        book = Book()
        for deed, things in [(book.add_batch, batches), (book.add_packing, packings), (book.add_fault, faults),
                             (book.say, pages)]:
            for thing in things:
                deed(thing)
        kept = told_of(book), [book.known(many, 2) for many in range(11)]
        spoil((batches, packings, faults, pages))
        self.assertEqual((told_of(book), [book.known(many, 2) for many in range(11)]), kept)
        book.undo()
        book.add_test("abcd", 0, "bad")
        self.assertEqual(book.suspected(), suspects([ONE, TWO, BARE], [("abcd", 0, "bad")]))

    def test_what_a_book_tells_may_be_changed(self):
        book = filled()
        kept = told_of(book), [book.known(many, 2) for many in range(FILLED + 1)]
        told = [told_of(book), told_of(book), [book.known(many, 2) for many in range(FILLED + 1)]]
        every = lists_in(told)
        self.assertEqual(len({id(one) for one in every}), len(every))
        spoil(told)
        self.assertEqual((told_of(book), [book.known(many, 2) for many in range(FILLED + 1)]), kept)

    def test_tuples_for_lists(self):
        book = Book()
        for deed, thing in [(book.add_batch, ONE), (book.add_batch, TWO), (book.add_batch, BARE),
                            (book.add_packing, SOUTH), (book.add_packing, NORTH)]:
            deed(tupled(thing))
        book.add_test("wxyz", 4, "bad")
        book.add_test("abcd", 9, "good")
        book.add_fault(("filler", 1, 2, ()))
        for page in (TELL, PACK, SELL):
            book.say(tupled(page))
        self.assertEqual(told_of(book), told_of(filled()))

    def test_told_things_handed_in_again(self):
        book, other = filled(), Book()
        for page in book.heap():
            other.say(page)
        self.assertEqual(other.heap(), book.heap())
        rows = book.called_back(2)[0]
        other.say((3, 77, ("tell", *rows[0])))
        self.assertEqual(other.heap()[-1], (3, 77, ("tell", "mill", "north", [(0, 0)])))
        other.add_batch(ONE)
        other.add_batch(TWO)
        other.add_packing(("again", 1, book.tins_of("north", 2)))
        self.assertEqual(other.tins_of("again", 2), [("wxyz", 0, 0)])


if __name__ == "__main__":
    unittest.main()

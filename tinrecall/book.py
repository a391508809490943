"""A Book of batches, packings, tests, faults and pages: kept up, undone, and asked as it was known."""

from tinrecall.errors import NoBatch, NoCase, NoDeed, NoPacking, NoPage, NoTest, NoTin, Taken, Twice
from tinrecall.kept import (
    BATCH, FAULT, PACKING, SAY, TEST, UNDO, UNSAY, called_back_by, called_by, deeds_left, frozen, has_bad, pages_kept,
    things_kept)
from tinrecall.packings import cases_of, packed_twice, tins_in
from tinrecall.readings import marks_read
from tinrecall.suspects import suspects


def page_told(page):
    """A kept page as it is told: its set is a list."""
    day, number, deed = page
    if deed[0] == "tell":
        return (day, number, (deed[0], deed[1], deed[2], list(deed[3])))
    return page


class Book:
    """Keeps what it is told, and tells what follows from it."""

    def __init__(self):
        # Every deed that was done, undos too. All else is told by these anew, so undo and known need nothing more.
        self.log = []

    def tins_by_mark(self):
        """How many tins each batch has, by their marks as they were added."""
        return {batch[0]: batch[1] for batch in things_kept(self.log, BATCH)}

    def add_batch(self, batch):
        """Adds a batch."""
        if batch[0] in self.tins_by_mark():
            raise Taken("a batch has this mark")
        self.log.append((BATCH, frozen(batch)))

    def add_packing(self, packing):
        """Adds a packing of tins of the batches that stand in no part yet."""
        tins = self.tins_by_mark()
        packings = things_kept(self.log, PACKING)
        if packing[0] in [kept[0] for kept in packings]:
            raise Taken("a packing has this name")
        if any(mark not in tins for mark, first, last in packing[2]):
            raise NoBatch("a part's mark is no batch's")
        if any(last >= tins[mark] for mark, first, last in packing[2]):
            raise NoTin("a part has a tin that its batch hasn't")
        if packed_twice([*packings, packing]):
            raise Twice("a tin would stand in parts twice")
        self.log.append((PACKING, frozen(packing)))

    def add_test(self, mark, tin, word):
        """Adds the test of a tin that wasn't tested."""
        tins = self.tins_by_mark()
        if mark not in tins:
            raise NoBatch("no batch has this mark")
        if tin >= tins[mark]:
            raise NoTin("the batch hasn't this tin")
        if (mark, tin) in [(test[0], test[1]) for test in things_kept(self.log, TEST)]:
            raise Taken("this tin was tested")
        self.log.append((TEST, (mark, tin, word)))

    def add_fault(self, fault):
        """Adds a fault, of any place."""
        self.log.append((FAULT, frozen(fault)))

    def say(self, page):
        """Adds a page to the heap."""
        if page[1] in [kept[1] for kept in pages_kept(self.log)]:
            raise Taken("a page has this number")
        self.log.append((SAY, frozen(page)))

    def unsay(self, number):
        """Takes a page from the heap."""
        if number not in [kept[1] for kept in pages_kept(self.log)]:
            raise NoPage("no page has this number")
        self.log.append((UNSAY, number))

    def undo(self):
        """Takes back the last deed that isn't taken back."""
        if not deeds_left(self.log):
            raise NoDeed("no deed is left to be taken back")
        self.log.append((UNDO, None))

    def find(self, reading, slips):
        """The marks of the batches that a reading fits with at most so many slips."""
        return marks_read(reading, list(self.tins_by_mark()), slips)

    def suspected(self):
        """Where and when, by the tests, one fault can have been."""
        tests = things_kept(self.log, TEST)
        if not has_bad(tests):
            raise NoTest("no tin was found bad")
        return suspects(things_kept(self.log, BATCH), tests)

    def called(self):
        """The pairs (name, cases) of what is called back."""
        return called_by(self.log)

    def heap(self):
        """The pages, by day, then by number."""
        return [page_told(page) for page in pages_kept(self.log)]

    def called_back(self, day):
        """What became of what is called back, by the pages till a day."""
        return called_back_by(self.log, day)

    def known(self, many, day):
        """What called_back told, or would have told, behind the first so many deeds."""
        if many > len(self.log):
            raise NoDeed("there were fewer deeds")
        return called_back_by(self.log[:many], day)

    def tins_of(self, name, case):
        """The triples (mark, first, last) of the tins of a case."""
        packings = {packing[0]: packing for packing in things_kept(self.log, PACKING)}
        if name not in packings:
            raise NoPacking("no packing has this name")
        if case >= cases_of(packings[name]):
            raise NoCase("the packing hasn't this case")
        return tins_in(packings[name], case)

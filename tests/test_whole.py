"""[1], [2] over the whole program: a Book and sheets held against going through everything one by one."""

import copy
import random
import unittest

from tests.helper import (
    HOLDERS, NAMES, CaseByCase, cases_laid_out, faults_tried, in_orders, members, meets, rack_of, small_batch,
    small_deed, stretches_of, window_of)
from tinrecall import errors
from tinrecall.book import Book
from tinrecall.errors import NoDeed, RecallError
from tinrecall.excluding import none_shown
from tinrecall.excludecheck import shows_none
from tinrecall.ladings import standing
from tinrecall.recalls import lacking_by
from tinrecall.sheet import run
from tinrecall.ways import way_of

MARKS = ["abcd", "wxyz", "mm00"]
PLACES = ["cooker", "filler", "seamer", "nowhere"]
WORDS = {"add_batch": "batch", "add_packing": "packing", "add_test": "test", "add_fault": "fault", "say": "say",
         "unsay": "unsay", "undo": "undo"}


def is_reached(batches, batch, tin, fault):
    """Whether a fault reaches a tin, by the words of [7]."""
    place, first, last, racks = fault
    if not meets(window_of(batches, place, (batch[0], tin)), first, last):
        return False
    return not racks or rack_of(batch, place, tin) in racks


def tins_called(batches, tests, faults):
    """The (mark, tin) that some fault that was or can have been reaches, tin by tin and fault by fault."""
    faults = list(faults)
    if any(word == "bad" for _, _, word in tests):
        faults += [(*fault, []) for fault in faults_tried(batches, tests)]
    return {(batch[0], tin) for batch in batches for tin in range(batch[1])
            if any(is_reached(batches, batch, tin, fault) for fault in faults)}


class Model:
    """What a Book must be: all that it has, copied whole at each deed."""

    def __init__(self):
        self.now = {"batches": [], "packings": [], "tests": [], "faults": [], "pages": []}
        self.behind = []
        self.stages = [self.now]

    def refusal_of(self, name, handed):
        """The name of the refusal that is due, by the words of [18]; None where none is."""
        has = self.now
        tins = {mark: many for mark, many, _ in has["batches"]}
        if name == "add_batch":
            return "Taken" if handed[0][0] in tins else None
        if name == "add_packing":
            packed = [tin for packing in [*has["packings"],
                                          handed[0]] for case in cases_laid_out(packing) for tin in case]
            due = [("Taken", handed[0][0] in [packing[0] for packing in has["packings"]]),
                   ("NoBatch", any(mark not in tins for mark, _, _ in handed[0][2])),
                   ("NoTin", any(tin >= tins.get(mark, 0) for mark, tin in packed)),
                   ("Twice", len(set(packed)) < len(packed))]
        elif name == "add_test":
            mark, tin, _ = handed
            due = [("NoBatch", mark not in tins), ("NoTin", tin >= tins.get(mark, 0)),
                   ("Taken", (mark, tin) in [test[:2] for test in has["tests"]])]
        elif name == "add_fault":
            due = []
        elif name == "undo":
            due = [("NoDeed", not self.behind)]
        else:
            numbers = [page[1] for page in has["pages"]]
            due = [("Taken", handed[0][1] in numbers)] if name == "say" else [("NoPage", handed[0] not in numbers)]
        return next((refusal for refusal, is_due in due if is_due), None)

    def do(self, name, handed):
        if name == "undo":
            self.now = self.behind.pop()
        else:
            self.behind.append(self.now)
            self.now = copy.deepcopy(self.now)
            rows = {"add_batch": "batches", "add_packing": "packings", "add_fault": "faults", "say": "pages"}
            if name in rows:
                self.now[rows[name]].append(copy.deepcopy(handed[0]))
            elif name == "add_test":
                self.now["tests"].append(handed)
            else:
                self.now["pages"] = [page for page in self.now["pages"] if page[1] != handed[0]]
        self.stages.append(self.now)


def called_by(has):
    """What called must tell, by all that a Book has."""
    tins = tins_called(has["batches"], has["tests"], has["faults"])
    told = [(packing[0], stretches_of([at for at, case in enumerate(cases_laid_out(packing)) if tins & set(case)]))
            for packing in has["packings"]]
    return sorted(pair for pair in told if pair[1])


def called_back_by(has, day):
    """What called_back must tell, by all that a Book has."""
    called = called_by(has)
    tried = CaseByCase(has["pages"], day)
    rows, sums = {}, []
    for name, cases in called:
        counts = dict.fromkeys(["unpacked", "lying", "sold", "back", "lacking"], 0)
        for case in members(cases):
            word, holder = tried.where.get((name, case), ("unpacked", None))
            counts[word] += 1
            if word == "lying":
                rows.setdefault((holder, name), []).append(case)
        sums.append((name, len(members(cases)), *counts.values()))
    return [(*key, stretches_of(rows[key])) for key in sorted(rows)], sums


def random_packing(rng):
    parts = []
    for _ in range(rng.choice([0, 1, 1, 1, 2, 2])):
        first = rng.randint(0, 4)
        parts.append((rng.choice([*MARKS, *MARKS, "none"]), first, first + rng.choice([0, 0, 1, 2])))
    return (rng.choice(NAMES), rng.randint(1, 3), parts)


def random_deed(rng):
    """The name of a deed of a Book, and what is handed in: some will be refused."""
    names = ["add_batch"] * 3 + ["add_packing"] * 4 + ["say"] * 4
    name = rng.choice([*names, "add_test", "add_fault", "unsay", "undo"])
    if name == "add_batch":
        return name, (small_batch(rng, rng.choice(MARKS)),)
    if name == "add_packing":
        return name, (random_packing(rng),)
    if name == "add_test":
        return name, (rng.choice([*MARKS, *MARKS, "none"]), rng.randint(0, 5), rng.choice(["bad", "good"]))
    if name == "add_fault":
        first = rng.randint(0, 12)
        return name, ((rng.choice(PLACES), first, first + rng.choice([0, 0, 1, 3]),
                       rng.choice([[], [], [0], [2, 1, 2]])),)
    if name == "say":
        return name, ((rng.randint(0, 6), rng.randint(0, 40), small_deed(rng, most=5)),)
    return name, ((rng.randint(0, 20),) if name == "unsay" else ())


class ModelTest(unittest.TestCase):
    def assert_alike(self, book, model):
        has = model.now
        self.assertEqual(book.find("*", 0), [batch[0] for batch in has["batches"]])
        self.assertEqual(book.heap(), sorted(has["pages"], key=lambda page: page[:2]))
        self.assertEqual(book.called(), called_by(has))
        for day in (0, 3, 6):
            self.assertEqual(book.called_back(day), called_back_by(has, day))
        for packing in has["packings"]:
            for at, case in enumerate(cases_laid_out(packing)):
                told = book.tins_of(packing[0], at)
                self.assertEqual([(mark, tin) for mark, first, last in told for tin in range(first, last + 1)], case)

    def test_random_deeds(self):
        rng = random.Random(18)
        refusals, called, lying = set(), 0, 0
        for _ in range(100):
            book, model = Book(), Model()
            for _ in range(rng.randint(10, 60)):
                name, handed = random_deed(rng)
                refusal = model.refusal_of(name, handed)
                refusals.add(refusal)
                if refusal:
                    with self.assertRaises(getattr(errors, refusal)):
                        getattr(book, name)(*handed)
                else:
                    self.assertIsNone(getattr(book, name)(*handed))
                    model.do(name, handed)
            self.assert_alike(book, model)
            called += bool(book.called())
            for many, has in enumerate(model.stages):
                told = book.known(many, 4)
                self.assertEqual(told, called_back_by(has, 4))
                lying += bool(told[0])
            with self.assertRaises(NoDeed):
                book.known(len(model.stages), 4)
            while model.behind:
                book.undo()
                model.do("undo", ())
                if rng.random() < 0.2:
                    self.assert_alike(book, model)
            with self.assertRaises(NoDeed):
                book.undo()
        self.assertEqual(refusals, {None, "Taken", "NoBatch", "NoTin", "Twice", "NoPage", "NoDeed"})
        self.assertGreater(called, 10)
        self.assertGreater(lying, 10)


def whole_case(rng):
    """Batches, packings of all their tins, tests, faults and pages of a small works."""
    batches = [small_batch(rng, mark) for mark in rng.sample(MARKS, rng.randint(1, 3))]
    parts = [(mark, tin, tin) for mark, tins, _ in batches for tin in range(tins)]
    rng.shuffle(parts)
    cut = rng.randint(0, len(parts))
    packings = [(name, rng.randint(1, 3), some) for name, some in zip(NAMES, (parts[:cut], parts[cut:]))]
    tins = [part[:2] for part in parts]
    tests = [(*tin, rng.choice(["bad", "good", "good"])) for tin in rng.sample(tins, min(len(tins), rng.randint(0, 4)))]
    faults = [random_deed_of(rng, "add_fault") for _ in range(rng.choice([0, 0, 1, 2]))]
    pages = [(0, at, ("pack", name, 9, "mill")) for at, name in enumerate(NAMES)]
    pages += [(rng.randint(0, 6), 10 + at, small_deed(rng, ["mill", *HOLDERS])) for at in range(rng.randint(0, 12))]
    return batches, packings, tests, faults, pages


def random_deed_of(rng, name):
    """What is handed in by a random deed of that name."""
    while True:
        deed, handed = random_deed(rng)
        if deed == name:
            return handed[0]


def book_of(batches, packings, tests, faults, pages):
    book = Book()
    for batch in batches:
        book.add_batch(batch)
    for packing in packings:
        book.add_packing(packing)
    for test in tests:
        book.add_test(*test)
    for fault in faults:
        book.add_fault(fault)
    for page in pages:
        book.say(page)
    return book


class WholeTest(unittest.TestCase):
    def test_just_the_tins_that_some_fault_reaches_are_called(self):
        rng = random.Random(1)
        some = none = 0
        for _ in range(300):
            batches, packings, tests, faults, pages = whole_case(rng)
            # With one tin in each case, cases stand for tins.
            packings = [(name, 1, parts) for name, _, parts in packings]
            book = book_of(batches, packings, tests, faults, pages)
            called = {book.tins_of(name, case)[0][:2] for name, cases in book.called() for case in members(cases)}
            self.assertEqual(called, tins_called(batches, tests, faults), (batches, tests, faults))
            some += 0 < len(called) < sum(batch[1] for batch in batches)
            if any(word == "bad" for _, _, word in tests) and not book.suspected():
                none += 1
                self.assertTrue(shows_none(batches, tests, none_shown(batches, tests)))
        self.assertGreater(some, 60)
        self.assertGreater(none, 10)

    def test_another_order_tells_the_same(self):
        rng = random.Random(2)
        for _ in range(60):
            batches, packings, tests, faults, pages = whole_case(rng)
            book = book_of(batches, packings, tests, faults, pages)
            told = [book.called(), book.heap(), [book.called_back(day) for day in range(7)]]
            suspected = book.suspected() if any(test[2] == "bad" for test in tests) else None
            for order in in_orders(rng, pages):
                other = book_of(rng.sample(batches, len(batches)), packings[::-1], rng.sample(tests, len(tests)),
                                faults[::-1], order)
                self.assertEqual([other.called(), other.heap(), [other.called_back(day) for day in range(7)]], told)
                if suspected is not None:
                    self.assertEqual(other.suspected(), suspected)

    def test_each_packed_case_is_somewhere_and_lacks_by_a_page(self):
        rng = random.Random(3)
        lacked = 0
        for _ in range(500):
            book = book_of(*whole_case(rng))
            heap, called = book.heap(), book.called()
            rows, sums = book.called_back(6)
            for name, many, unpacked, lying, sold, back, lacking in sums:
                self.assertEqual(many, unpacked + lying + sold + back + lacking)
                self.assertEqual(sum(len(members(row[2])) for row in rows if row[1] == name), lying)
            for number, name, cases in lacking_by(heap, 6, called):
                for case in members(cases):
                    lacked += 1
                    self.assertEqual(way_of(heap, 6, name, case)[-1][:2], (number, "lacking"))
        self.assertGreater(lacked, 20)


def row_of(name, handed):
    """A deed as a row of a sheet; None where sheets can't write it."""
    word = WORDS[name]
    if name in ("add_batch", "add_packing", "add_fault", "say"):
        return {"add_batch": batch_row, "add_packing": packing_row, "add_fault": fault_row,
                "say": say_row}[name](*handed)
    return " ".join([word, *[str(one) for one in handed]])


def batch_row(batch):
    mark, tins, passes = batch
    written = []
    for passed in passes:
        if passed[0] == "racks":
            stays = ",".join(f"{first}-{last}" for first, last in passed[3])
            written.append(f"racks:{passed[1]}:{passed[2]}:{stays}")
        else:
            written.append(":".join(str(one) for one in passed))
    return " ".join(["batch", mark, str(tins), *written])


def packing_row(packing):
    name, size, parts = packing
    return " ".join(["packing", name, str(size), *[f"{mark}:{first}-{last}" for mark, first, last in parts]])


def fault_row(fault):
    return " ".join(["fault", *[str(one) for one in fault[:3]], *[str(rack) for rack in fault[3]]])


def say_row(page):
    day, number, deed = page
    if deed[0] == "tell":
        deed = (*deed[:3], *[f"{first}-{last}" for first, last in deed[3]])
    return " ".join(["say", str(day), str(number), *[str(one) for one in deed]])


def cases_written(cases):
    return ",".join(f"{first}-{last}" for first, last in cases)


def random_ask(rng, book):
    """A row that asks, and a function that tells by a Book what must be answered, as a list of texts."""
    day, name, case = rng.randint(0, 6), rng.choice([*NAMES, "nuts"]), rng.randint(0, 5)
    return rng.choice([
        ("find a* 0", lambda: book.find("a*", 0)),
        ("find ?[bx]?[dz] 1", lambda: book.find("?[bx]?[dz]", 1)),
        ("suspects", lambda: [" ".join("-" if one is None else str(one) for one in row) for row in book.suspected()]),
        ("called", lambda: [f"{of} {cases_written(cases)}" for of, cases in book.called()]),
        (f"recall {day}", lambda: [" ".join(map(str, row)) for row in book.called_back(day)[1]]),
        (f"standing {day}", lambda: [f"{holder} {of} {cases_written(cases)}"
                                     for holder, of, cases in standing(book.heap(), day)[0]]),
        (f"way {name} {case} {day}", lambda: [" ".join(map(str, row)) for row in way_of(book.heap(), day, name, case)]),
        (f"case {name} {case}", lambda: [f"{mark} {first}-{last}" for mark, first, last in book.tins_of(name, case)]),
    ])


class SheetTest(unittest.TestCase):
    def test_sheets_against_a_book_told_the_same(self):
        rng = random.Random(20)
        seen = set()
        for _ in range(200):
            book, rows, wanted = Book(), [], []
            while len(rows) < 60:
                name, handed = random_deed(rng)
                if rng.random() < 0.4:
                    row, ask = random_ask(rng, book)
                elif name == "add_packing" and not handed[0][2]:
                    continue
                else:
                    row, ask = row_of(name, handed), None
                try:
                    told = getattr(book, name)(*handed) if ask is None else ask()
                    answer = "done" if told is None else " / ".join(told) or "-"
                except RecallError as refusal:
                    answer = "refused " + type(refusal).__name__
                rows.append(row)
                wanted.append(answer)
                seen.add(answer if answer.startswith("refused") else row.split(" ")[0])
            self.assertEqual(run("\n".join(rows)), wanted)
        self.assertEqual(seen, {
            "batch", "packing", "test", "fault", "say", "unsay", "undo", "find", "suspects", "called", "recall",
            "standing",
            "way", "case", "refused Taken", "refused NoBatch", "refused NoTin", "refused Twice", "refused NoPage",
            "refused NoDeed", "refused NoTest", "refused NoPacking", "refused NoCase"})


if __name__ == "__main__":
    unittest.main()

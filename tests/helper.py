"""What several tests need: told things looked through, and [2] held against a whole call."""

import copy
import functools
import itertools

BIG = 10 ** 30


def members(some):
    """The numbers of a small set, one by one."""
    return {number for first, last in some for number in range(first, last + 1)}


def stretches_of(numbers):
    """The set of stretches of some numbers, built number by number."""
    told = []
    for number in sorted(set(numbers)):
        if told and told[-1][1] == number - 1:
            told[-1] = (told[-1][0], number)
        else:
            told.append((number, number))
    return told


def subsets(many):
    """All sets of numbers below many, each as its list of numbers."""
    return [[k for k in range(many) if bits >> k & 1] for bits in range(2 ** many)]


def lists_in(thing):
    """Every list within a thing, itself too."""
    found = [thing] if isinstance(thing, list) else []
    if isinstance(thing, (list, tuple)):
        for part in thing:
            found += lists_in(part)
    return found


def tupled(thing):
    """A thing with a tuple for each of its lists."""
    if isinstance(thing, (list, tuple)):
        return tuple(tupled(part) for part in thing)
    return thing


def is_set(some):
    """Whether a told thing is a set as [3] has it, of plain whole numbers."""
    if type(some) is not list:
        return False
    for stretch in some:
        if type(stretch) is not tuple or len(stretch) != 2:
            return False
        if any(type(number) is not int or number < 0 for number in stretch) or stretch[0] > stretch[1]:
            return False
    return all(one[1] + 1 < other[0] for one, other in zip(some, some[1:]))


def is_marked(told):
    """Whether a told thing is a list of pairs (mark, set) with sets that aren't empty."""
    return type(told) is list and all(
        type(row) is tuple and len(row) == 2 and type(row[0]) is str and is_set(row[1]) and row[1] for row in told)


def spoil(told):
    """Changes every list of a told thing."""
    for one in lists_in(told):
        one.reverse()
        one.append("spoiled")


def holds_to_point_two(case, function, *handed):
    """Holds one call against [2], and tells what it told."""
    before = copy.deepcopy(handed)
    told = function(*handed)
    case.assertEqual(handed, before, "what is handed in was changed")
    kept = copy.deepcopy(told)
    again = function(*handed)
    case.assertEqual(again, kept, "asked again, something else was told")
    every = lists_in(told) + lists_in(again)
    case.assertEqual(len({id(one) for one in every}), len(every), "two told lists are one")
    ours = {id(one) for one in lists_in(handed)}
    case.assertFalse([one for one in every if id(one) in ours], "a handed list was told")
    case.assertEqual(function(*tupled(handed)), kept, "tuples for lists are told of otherwise")
    spoil(told)
    spoil(again)
    case.assertEqual(handed, before, "a told list was bound to what was handed in")
    case.assertEqual(function(*handed), kept, "a changed told list changed what is told")
    return kept


def nested(thing, deep, kind):
    """A thing within so many lists or tuples."""
    for _ in range(deep):
        thing = kind([thing])
    return thing


JUNK = [
    None, True, False, 0, 1, 2, -1, BIG, -BIG, "", "a", "bad", "cooker", "samples", "blind", [], (), [0], (0,), [1],
    [-1], [True], (False,), [None], ["0"], [[]], ((),), [0, 1], (1, 0), [0, 0], (0, 1, 2), ("blind", 0), ["blind", 0],
    ("samples", [], []), ("cooker", [], []), nested(0, 8, list), nested(0, 8, tuple), nested("a", 7, list),
    nested(None, 7, tuple), [nested(True, 7, list)] * 3, (nested([], 6, tuple),) * 3,
]


def changed_at(thing, at, part):
    """A list or tuple with another part at a place."""
    parts = list(thing)
    parts[at] = part
    return type(thing)(parts)


def turned(thing):
    """A thing, itself, changed in small ways."""
    if isinstance(thing, int):
        yield from (thing + 1, thing - 1, -thing, bool(thing), str(thing), [thing], (thing,))
    if isinstance(thing, str):
        yield from (thing + "a", thing[1:], thing.upper(), [thing], (thing,))
    if isinstance(thing, (list, tuple)):
        other = list if isinstance(thing, tuple) else tuple
        yield from (other(thing), thing[::-1], thing + thing, [thing], (thing,))
        for at, part in enumerate(thing):
            yield thing[:at] + thing[at + 1:]
            yield thing[:at] + type(thing)([part]) + thing[at:]
        for part in JUNK[:12]:
            yield thing + type(thing)([part])


def mangled(told):
    """A told thing changed in many ways, at each of its places: most of them wrong, some as right as before."""
    yield from JUNK
    yield from turned(told)
    if isinstance(told, (list, tuple)):
        for at, part in enumerate(told):
            for other in mangled(part):
                yield changed_at(told, at, other)


def are_rising_numbers(thing):
    """Whether a thing is a rising list, or tuple, of plain whole numbers."""
    if type(thing) not in (list, tuple) or any(type(one) is not int or one < 0 for one in thing):
        return False
    return all(one < other for one, other in zip(thing, thing[1:]))


def small_batch(rng, mark):
    """A batch of few tins and small minutes, past some of three places."""
    tins = rng.randint(1, 6)
    passes = []
    for place in rng.sample(["cooker", "filler", "seamer"], rng.choice([0, 1, 2, 2, 3, 3])):
        if rng.random() < 0.4:
            passes.append(("line", place, rng.randint(0, 6), rng.randint(0, 3), rng.randint(1, 3)))
        else:
            per = rng.randint(1, 3)
            stays = [tuple(sorted((rng.randint(0, 9), rng.randint(0, 9)))) for _ in range(-(-tins // per))]
            passes.append(("racks", place, per, stays))
    return (mark, tins, passes)


def small_case(rng, most=6):
    """A pair (batches, tests) of few tins and small minutes, one test of a bad tin at least."""
    batches = [small_batch(rng, mark) for mark in rng.sample(["abcd", "wxyz", "mm00"], rng.randint(1, 3))]
    tests = []
    for word in ["bad"] + rng.choices(["bad", "good", "good"], k=rng.randint(0, most - 1)):
        batch = rng.choice(batches)
        tests.append((batch[0], rng.randrange(batch[1]), word))
    rng.shuffle(tests)
    return batches, tests


def window_of(batches, place, test):
    """The window of a test's tin at a place, as [6] has it."""
    tins, passes = next((batch[1], batch[2]) for batch in batches if batch[0] == test[0])
    for passed in passes:
        if passed[1] == place and passed[0] == "line":
            minute = passed[2] + test[1] * passed[3] // passed[4]
            return (minute, minute)
        if passed[1] == place:
            return [stay for stay in passed[3] for _ in range(passed[2])][:tins][test[1]]
    return None


def rack_of(batch, place, tin):
    """The rack that a tin is in at a place; None where it is in none."""
    return next((tin // passed[2] for passed in batch[2] if passed[1] == place and passed[0] == "racks"), None)


def cases_laid_out(packing):
    """The tins of each case of a packing, all laid out one by one."""
    tins = [(mark, tin) for mark, first, last in packing[2] for tin in range(first, last + 1)]
    return [tins[k:k + packing[1]] for k in range(0, len(tins), packing[1])]


def places_in(batches):
    """The rising list of the places of some batches."""
    return sorted({passed[1] for batch in batches for passed in batch[2]})


def meets(window, first, last):
    """Whether one of the minutes from first to last is in a window, minute by minute."""
    return window is not None and any(window[0] <= minute <= window[1] for minute in range(first, last + 1))


def spans_between(bad, good, beyond):
    """All (first, last) before the minute beyond that meet all bad windows and no good one."""
    return spans_tried(tuple(bad), tuple(good), beyond)


@functools.lru_cache(maxsize=10000)
def spans_tried(bad, good, beyond):
    return [(first, last) for first in range(beyond) for last in range(first, beyond)
            if all(meets(window, first, last) for window in bad)
            and not any(meets(window, first, last) for window in good)]


# A minute behind all those of small batches, so that what has no end is seen to go on.
BEYOND = 24


def faults_tried(batches, tests, beyond=BEYOND):
    """All faults (place, first, last) before the minute beyond that can have been by the words of [9]."""
    found = []
    for place in places_in(batches):
        bad = [window_of(batches, place, test) for test in tests if test[2] == "bad"]
        good = [window_of(batches, place, test) for test in tests if test[2] == "good"]
        found += [(place, *span) for span in spans_between(bad, good, beyond)]
    return found


def small_runs(rng, most=6):
    """A pair (runs, gone) of small numbers."""
    runs = [tuple(sorted((rng.randint(0, 9), rng.randint(0, 9)))) for _ in range(rng.randint(1, most))]
    return runs, stretches_of(rng.sample(range(11), rng.choice([0, 0, 1, 2, 3, 5, 7])))


def fewest_tried(runs, gone):
    """How many numbers that aren't gone are needed for each run to have one, all sets of small ones gone through."""
    left = sorted(members(runs) - members(gone))
    for many in range(len(left) + 1):
        for some in itertools.combinations(left, many):
            if all(any(first <= number <= last for number in some) for first, last in runs):
                return many
    return None


def small_prices(rng):
    """A pair (prices, runs) of few places."""
    many = rng.randint(1, 7)
    prices = [rng.choice([0, 1, 1, 2, 3, 5, 8]) for _ in range(many)]
    ends = [(rng.randrange(many), rng.randrange(many)) for _ in range(rng.randint(1, 6))]
    return prices, [tuple(sorted(pair)) for pair in ends]


def cost_tried(prices, runs):
    """The least cost of places such that each run has one, all sets of few places gone through."""
    return min(sum(prices[place] for place in some) for some in subsets(len(prices))
               if all(set(range(first, last + 1)) & set(some) for first, last in runs))


def name_told(deed):
    """The name of the packing that a deed of a page is of."""
    return deed[{"pack": 1, "lade": 3}.get(deed[0], 2)]


def idle_word(deed, packed):
    """The word by which a page is idle, by the words of [14]; None where it is done."""
    due = [("packed", deed[0] == "pack" and name_told(deed) in packed),
           ("strange", deed[0] != "pack" and name_told(deed) not in packed),
           ("same", deed[0] == "lade" and deed[1] == deed[2])]
    return next((word for word, is_due in due if is_due), None)


class CaseByCase:
    """The pages of a small heap till a day gone through case by case, as [14] and [15] have it.

    where: for each packed (name, case) the pair (word, holder or None); by: for each one that lacks its page's number;
    ways: for each packed one the triples of [16]; fared: for each page, in order, (number, word, short cases).
    """

    def __init__(self, heap, day):
        self.where, self.by, self.ways, self.fared = {}, {}, {}, []
        for _, number, deed in sorted((page for page in heap if page[0] <= day), key=lambda page: page[:2]):
            word = idle_word(deed, {name for name, _ in self.where})
            short = set() if word else getattr(self, deed[0])(number, *deed[1:])
            self.fared.append((number, word or "done", stretches_of(short)))

    def put(self, key, number, word, holder, spot):
        self.where[key] = spot
        self.by.pop(key, None)
        self.ways.setdefault(key, []).append((number, word, holder))

    def pack(self, number, name, many, holder):
        for case in range(many):
            self.put((name, case), number, "packed", holder, ("lying", holder))
        return set()

    def carry(self, number, holder, name, first, last, way, spot):
        short = set()
        for case in range(first, last + 1):
            if self.where.get((name, case)) == ("lying", holder):
                self.put((name, case), number, *way, spot)
            else:
                short.add(case)
        return short

    def lade(self, number, holder, other, name, first, last):
        return self.carry(number, holder, name, first, last, ("laded", other), ("lying", other))

    def sell(self, number, holder, name, first, last):
        return self.carry(number, holder, name, first, last, ("sold", holder), ("sold", None))

    def back(self, number, holder, name, first, last):
        return self.carry(number, holder, name, first, last, ("back", holder), ("back", None))

    def tell(self, number, holder, name, cases):
        told = members(cases)
        short = {case for case in told if self.where.get((name, case)) not in [("lying", holder), ("lacking", None)]}
        for key, spot in list(self.where.items()):
            if key[0] == name and spot == ("lying", holder) and key[1] not in told:
                self.put(key, number, "lacking", holder, ("lacking", None))
                self.by[key] = number
            elif key[0] == name and spot == ("lacking", None) and key[1] in told:
                self.put(key, number, "found", holder, ("lying", holder))
        return short

    def cases(self, name, *spot):
        """The numbers of the cases of a name at a spot."""
        return {case for (of, case), there in self.where.items() if of == name and there == spot}

    def standing(self):
        """What standing must tell."""
        names = sorted({name for name, _ in self.where})
        holders = sorted({holder for word, holder in self.where.values() if word == "lying"})
        lying = [(holder, name, stretches_of(self.cases(name, "lying", holder)))
                 for holder in holders for name in names]
        ends = [(name, word, stretches_of(self.cases(name, word, None)))
                for name in names for word in ("back", "lacking", "sold")]
        return ([row for row in lying if row[2]], [row for row in ends if row[2]],
                [(number, short) for number, _, short in self.fared if short],
                [(number, word) for number, word, _ in self.fared if word != "done"])


NAMES = ["pears", "plums"]
HOLDERS = ["east", "mill", "west"]


def small_deed(rng, holders=("east", "mill", "west"), most=9):
    """A deed of a page of small packings, by one of the holders."""
    word = rng.choice(["pack", "sell", "back"] + ["lade"] * 5 + ["tell"] * 4)
    name, holder = rng.choice(NAMES), rng.choice(holders)
    first = rng.randint(0, most)
    last = min(most, first + rng.choice([0, 1, 2, 3, 5, 9]))
    if word == "pack":
        return ("pack", name, rng.randint(1, most), holder)
    if word == "lade":
        others = [other for other in HOLDERS if other != holder]
        return ("lade", holder, rng.choice(others * 3 + [holder]), name, first, last)
    if word == "tell":
        return ("tell", holder, name, stretches_of([case for case in range(most + 1) if rng.random() < 0.7]))
    return (word, holder, name, first, last)


def small_heap(rng, most=24):
    """A heap of small packings, in any order."""
    # Mostly packed early, and told of holders who have some, so that much is done.
    deeds = [("pack", name, rng.randint(4, 9), "mill") for name in rng.sample(NAMES, rng.choice([0, 1, 2, 2, 2]))]
    holders = ["mill"]
    for _ in range(rng.choice([0, 2, *range(6, most)])):
        deeds.append(small_deed(rng, holders if rng.random() < 0.8 else HOLDERS))
        if deeds[-1][0] == "lade":
            holders.append(deeds[-1][2])
    days = [7 * at // len(deeds) if rng.random() < 0.9 else rng.randint(0, 6) for at in range(len(deeds))]
    pages = list(zip(days, sorted(rng.sample(range(50), len(deeds))), deeds))
    rng.shuffle(pages)
    return pages


def in_orders(rng, heap, many=3):
    """The heap turned round and in some other orders."""
    yield heap[::-1]
    for _ in range(many):
        yield rng.sample(heap, len(heap))

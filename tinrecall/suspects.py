"""By tins found bad and good: where and when one fault can have been, and which tins it reaches."""

from tinrecall.batches import tins_at, window
from tinrecall.faults import reached
from tinrecall.stretches import both_of, count_of, set_of

BAD = "bad"
GOOD = "good"


def places_passed(batches):
    """The rising list of the places that some pass has."""
    return sorted({passed[1] for batch in batches for passed in batch[2]})


def windows_tested(batches, tests, place):
    """For each test its tin's window at a place; None where it has none."""
    marked = {batch[0]: batch for batch in batches}
    return [window(marked[mark], place, tin) for mark, tin, word in tests]


def free_rows(windows):
    """The rows of minutes, as long as can be, that no window meets, the last one without end (None)."""
    rows = []
    start = 0
    for first, last in set_of(windows):
        if start < first:
            rows.append((start, first - 1))
        start = last + 1
    rows.append((start, None))
    return rows


def fault_rows(bad, good):
    """The tuples (first, last, latest, earliest) of the rows free of good windows where a fault meets all bad ones."""
    # A fault meets all bad windows just where it begins not behind the first of their ends and ends not ahead of
    # the last of their begins: so these two minutes stand for all of them.
    first_end = min(end for begin, end in bad)
    last_begin = max(begin for begin, end in bad)
    rows = []
    for first, last in free_rows(good):
        if first <= first_end and (last is None or last_begin <= last):
            latest = first_end if last is None else min(first_end, last)
            rows.append((first, last, latest, max(last_begin, first)))
    return rows


def rows_at(batches, tests, place):
    """The tuples (first, last, latest, earliest) of the rows of minutes at a place where a fault can have been."""
    windows = windows_tested(batches, tests, place)
    bad = [span for span, test in zip(windows, tests) if test[2] == BAD]
    if None in bad:
        return []
    good = [span for span, test in zip(windows, tests) if test[2] == GOOD and span is not None]
    return fault_rows(bad, good)


def suspects(batches, tests):
    """The tuples (place, first, last, latest, earliest) of where and when one fault can have been."""
    rows = []
    for place in places_passed(batches):
        rows.extend([(place, *row) for row in rows_at(batches, tests, place)])
    return rows


def can_reach(batches, tests):
    """The pairs (mark, set) of the tins that some fault that can have been reaches."""
    # All of a row's faults together reach just what one over the whole row would, though it be without end.
    return reached(batches, [(place, first, last, []) for place, first, last, latest, earliest
                             in suspects(batches, tests)])


def tins_of_all(batch, rows):
    """The set of the tins of a batch that each fault of all these rows reaches."""
    some = [(0, batch[1] - 1)]
    for place, first, last, latest, earliest in rows:
        # Just the fault that begins last and the one that ends first can miss a tin that others reach.
        some = both_of(some, tins_at(batch, place, latest, None))
        some = both_of(some, tins_at(batch, place, 0, earliest))
    return some


def must_reach(batches, tests):
    """The pairs (mark, set) of the tins that each fault that can have been reaches; none where none can have been."""
    rows = suspects(batches, tests)
    told = []
    if rows:
        for batch in batches:
            some = tins_of_all(batch, rows)
            if some:
                told.append((batch[0], some))
    return told


def count_reached(batches, tests):
    """How many tins some fault that can have been reaches."""
    return sum(count_of(some) for mark, some in can_reach(batches, tests))


def next_test(batches, tests, choices):
    """The triple (mark, tin, most) of the first choice that leaves, bad or good, the fewest tins at most."""
    best = None
    for mark, tin in choices:
        most = max(count_reached(batches, [*tests, (mark, tin, word)]) for word in (BAD, GOOD))
        if best is None or most < best[2]:
            best = (mark, tin, most)
    return best

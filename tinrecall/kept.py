"""What a Book has by the deeds that it was told, and what is called back by that.

A log is a list of pairs (word, thing), one for each deed that was done, undos among them.
"""

from tinrecall.faults import reached
from tinrecall.ladings import in_order
from tinrecall.recalls import call_of, recall
from tinrecall.stretches import either
from tinrecall.suspects import BAD, can_reach

BATCH = "batch"
PACKING = "packing"
TEST = "test"
FAULT = "fault"
SAY = "say"
UNSAY = "unsay"
UNDO = "undo"


def frozen(thing):
    """A copy of a thing with tuples for lists, so that nothing done to the thing later changes it."""
    if isinstance(thing, (list, tuple)):
        return tuple(frozen(part) for part in thing)
    return thing


def deeds_left(log):
    """The deeds of a log that aren't taken back."""
    left = []
    for deed in log:
        if deed[0] == UNDO:
            left.pop()
        else:
            left.append(deed)
    return left


def things_kept(log, word):
    """The things that were told by the deeds of a word, as they were told."""
    return [thing for of, thing in deeds_left(log) if of == word]


def pages_kept(log):
    """The pages that were said and not unsaid, as they are gone through."""
    pages = {}
    for word, thing in deeds_left(log):
        if word == SAY:
            pages[thing[1]] = thing
        elif word == UNSAY:
            del pages[thing]
    return in_order(list(pages.values()))


def has_bad(tests):
    """Whether one of the tests is of a bad tin."""
    return any(word == BAD for mark, tin, word in tests)


def marked_by(log):
    """The pairs (mark, set) of the tins that the faults reach, or one that can have been by the tests."""
    batches, tests = things_kept(log, BATCH), things_kept(log, TEST)
    marked = reached(batches, things_kept(log, FAULT))
    if has_bad(tests):
        marked.extend(can_reach(batches, tests))
    # A mark may stand among both, and call_of takes each just once.
    sets = {}
    for mark, some in marked:
        sets[mark] = either(sets.get(mark, []), some)
    return list(sets.items())


def called_by(log):
    """The pairs (name, cases) of the cases that have one of these tins."""
    return call_of(things_kept(log, PACKING), marked_by(log))


def called_back_by(log, day):
    """The pair (rows, sums) of recall, of what is called by a log."""
    return recall(pages_kept(log), day, called_by(log))

"""What is called back, and what became of it."""

from tinrecall.ladings import BACK, LACKING, LYING, SOLD, cases_at, gone_through, lying_in
from tinrecall.packings import cases_with
from tinrecall.stretches import both_of, count_of


def call_of(packings, marked):
    """The rising list of pairs (name, cases) of the cases that have a marked tin."""
    called = [(packing[0], cases_with(packing, marked)) for packing in packings]
    return sorted([pair for pair in called if pair[1]])


def sum_of(name, cases, store):
    """The tuple (name, called, unpacked, lying, sold, back, lacking) of counts of the called cases of a name."""
    counts = [count_of(both_of(cases, cases_at(store, word))) for word in (LYING, SOLD, BACK, LACKING)]
    called = count_of(cases)
    # A packed case is at just one spot, so what is at none was not packed.
    return (name, called, called - sum(counts), *counts)


def recall(heap, day, called):
    """The pair (rows, sums): with whom called cases lie on a day, and how many of each name are where."""
    stores, steps = gone_through(heap, day)
    wanted = {name: cases for name, cases in called}
    met = [(holder, name, both_of(cases, wanted.get(name, []))) for holder, name, cases in lying_in(stores)]
    rows = [row for row in met if row[2]]
    sums = [sum_of(name, cases, stores.get(name, {})) for name, cases in called]
    return (rows, sums)


def lacking_by(heap, day, called):
    """The triples (number, name, cases) of the pages by which called cases lack that lack still."""
    stores, steps = gone_through(heap, day)
    wanted = {name: cases for name, cases in called}
    told = []
    for number, name, word, short, puts in steps:
        cases = both_of(stores.get(name, {}).get((LACKING, number), []), wanted.get(name, []))
        if cases:
            told.append((number, name, cases))
    return told

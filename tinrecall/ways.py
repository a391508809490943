"""Which way a case went from page to page, and what a page that comes late turns."""

from tinrecall.ladings import gone_through
from tinrecall.stretches import is_in


def way_of(heap, day, name, case):
    """The triples (number, word, holder) of the pages till a day that put a case somewhere."""
    stores, steps = gone_through(heap, day)
    way = []
    for number, packing, page_word, short, puts in steps:
        if packing == name:
            way.extend([(number, word, holder) for word, holder, cases in puts if is_in(cases, case)])
    return way


def outcomes(heap, day):
    """The triples (number, word, short) of the pages till a day, as they are gone through."""
    stores, steps = gone_through(heap, day)
    return [(number, word, short) for number, name, word, short, puts in steps]


def late(heap, page, day):
    """The triples (number, one, other) of the pages till a day that fare otherwise with one page more."""
    without_it = {number: (word, short) for number, word, short in outcomes(heap, day)}
    turned = []
    for number, word, short in outcomes([*heap, page], day):
        if number != page[1] and without_it[number] != (word, short):
            turned.append((number, without_it[number], (word, short)))
    return turned

"""The rows of a sheet: how each deed and each ask is written, and what it hands in."""

from tinrecall.stretches import set_of
from tinrecall.words import Words

MOST_PASSES = 6
MOST_RACKS = 12
MOST_PARTS = 12


def read_stretches(words):
    """All words that are left, as stretches."""
    stretches = []
    while words.has_more():
        stretches.append(words.stretch())
    return stretches


def read_line(parts):
    """A pass of a line, behind its first word."""
    place = parts.name()
    start = parts.number()
    long = parts.number()
    return ("line", place, start, long, parts.number_above())


def read_racks(parts, tins):
    """A pass of racks, behind its first word, with a stay for each rack that so many tins need."""
    place = parts.name()
    per = parts.number_above()
    stays = read_stretches(parts.parts(","))
    parts.hold(len(stays) == (tins + per - 1) // per and len(stays) <= MOST_RACKS)
    return ("racks", place, per, stays)


def read_pass(words, tins):
    """A pass of a batch of so many tins."""
    parts = words.parts(":")
    word = parts.word_among(("line", "racks"))
    passed = read_line(parts) if word == "line" else read_racks(parts, tins)
    parts.end()
    return passed


# Each of these reads a row behind its first word, and tells the tuple of what it hands in.

def read_batch(words):
    """`MARK N PASS ..`"""
    mark = words.mark()
    tins = words.number_above()
    passes = []
    while words.has_more():
        passes.append(read_pass(words, tins))
    places = [passed[1] for passed in passes]
    words.hold(len(passes) <= MOST_PASSES and len(set(places)) == len(places))
    return ((mark, tins, passes),)


def read_part(words):
    """A part of a packing, `MARK:N-N`."""
    halves = words.parts(":")
    mark = halves.mark()
    first, last = halves.stretch()
    halves.end()
    return (mark, first, last)


def read_packing(words):
    """`NAME N PART ..`"""
    name = words.name()
    size = words.number_above()
    parts = [read_part(words)]
    while words.has_more():
        parts.append(read_part(words))
    words.hold(len(parts) <= MOST_PARTS)
    return ((name, size, parts),)


def read_test(words):
    """`MARK N WORD`"""
    mark = words.mark()
    tin = words.number()
    return (mark, tin, words.word_among(("good", "bad")))


def read_fault(words):
    """`NAME N N N ..`"""
    place = words.name()
    first, last = words.span()
    racks = []
    while words.has_more():
        racks.append(words.number())
    words.hold(len(racks) <= MOST_RACKS)
    return ((place, first, last, racks),)


# Each of these reads a page's deed behind its word, and tells the deed.

def read_pack(words, word):
    """`NAME N NAME`"""
    name = words.name()
    many = words.number_above()
    return (word, name, many, words.name())


def read_lade(words, word):
    """`NAME NAME NAME N N`"""
    holder = words.name()
    other = words.name()
    name = words.name()
    first, last = words.span()
    return (word, holder, other, name, first, last)


def read_end(words, word):
    """`NAME NAME N N`, of sell and back"""
    holder = words.name()
    name = words.name()
    first, last = words.span()
    return (word, holder, name, first, last)


def read_tell(words, word):
    """`NAME NAME N-N ..`"""
    holder = words.name()
    name = words.name()
    cases = read_stretches(words)
    words.hold(cases == set_of(cases))
    return (word, holder, name, cases)


PAGES = {"pack": read_pack, "lade": read_lade, "sell": read_end, "back": read_end, "tell": read_tell}


def read_say(words):
    """`N N`, and a page's deed"""
    day = words.number()
    number = words.number()
    word = words.word_among(list(PAGES))
    read = PAGES[word]
    return ((day, number, read(words, word)),)


def read_number(words):
    """`N`"""
    return (words.number(),)


def read_none(words):
    """No word more"""
    return ()


def read_find(words):
    """`READING N`"""
    reading = words.reading()
    return (reading, words.number())


def read_way(words):
    """`NAME N N`"""
    name = words.name()
    case = words.number()
    return (name, case, words.number())


def read_case(words):
    """`NAME N`"""
    name = words.name()
    return (name, words.number())


ROWS = {
    "batch": read_batch, "packing": read_packing, "test": read_test, "fault": read_fault, "say": read_say,
    "unsay": read_number, "undo": read_none,
    "find": read_find, "suspects": read_none, "called": read_none, "recall": read_number, "standing": read_number,
    "way": read_way, "case": read_case,
}


def read_row(at, row):
    """The pair of a row's first word and what it hands in; refused with BadRow, of its number, where it is none."""
    words = Words(at, row.split(" "))
    word = words.word_among(list(ROWS))
    read = ROWS[word]
    handed = read(words)
    words.end()
    return (word, handed)

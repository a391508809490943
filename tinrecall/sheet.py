"""Sheets: rows of deeds and asks, answered by a Book."""

from tinrecall.book import Book
from tinrecall.errors import NoBatch, NoCase, NoDeed, NoPacking, NoPage, NoTest, NoTin, Taken, Twice
from tinrecall.ladings import standing
from tinrecall.rows import read_row
from tinrecall.ways import way_of


def do_batch(book, batch):
    """Adds a batch."""
    book.add_batch(batch)


def do_packing(book, packing):
    """Adds a packing."""
    book.add_packing(packing)


def do_test(book, mark, tin, word):
    """Adds a test."""
    book.add_test(mark, tin, word)


def do_fault(book, fault):
    """Adds a fault."""
    book.add_fault(fault)


def do_say(book, page):
    """Adds a page."""
    book.say(page)


def do_unsay(book, number):
    """Takes a page away."""
    book.unsay(number)


def do_undo(book):
    """Takes a deed back."""
    book.undo()


DEEDS = {
    "batch": do_batch, "packing": do_packing, "test": do_test, "fault": do_fault, "say": do_say, "unsay": do_unsay,
    "undo": do_undo,
}


# Each of these tells a list of tuples, what is written of each.

def ask_find(book, reading, slips):
    """The marks that a reading fits."""
    return [(mark,) for mark in book.find(reading, slips)]


def ask_suspects(book):
    """Where and when one fault can have been."""
    return book.suspected()


def ask_called(book):
    """The cases that are called back."""
    return book.called()


def ask_recall(book, day):
    """What became of them till a day."""
    rows, sums = book.called_back(day)
    return sums


def ask_standing(book, day):
    """Which cases lie with whom on a day."""
    lying, ends, shorts, idle = standing(book.heap(), day)
    return lying


def ask_way(book, name, case, day):
    """Which way a case went till a day."""
    return way_of(book.heap(), day, name, case)


def ask_case(book, name, case):
    """The tins of a case."""
    return [(mark, [(first, last)]) for mark, first, last in book.tins_of(name, case)]


ASKS = {
    "find": ask_find, "suspects": ask_suspects, "called": ask_called, "recall": ask_recall, "standing": ask_standing,
    "way": ask_way, "case": ask_case,
}


def written(thing):
    """A name, word, number or set as it is written; `-` for None."""
    if thing is None:
        return "-"
    if isinstance(thing, list):
        return ",".join(f"{first}-{last}" for first, last in thing)
    return str(thing)


def written_all(told):
    """All that an ask told, parted by ` / `; `-` of none."""
    return " / ".join(" ".join([written(thing) for thing in row]) for row in told) or "-"


def answer(book, word, handed):
    """The answer of a row that isn't refused."""
    if word in DEEDS:
        deed = DEEDS[word]
        deed(book, *handed)
        return "done"
    ask = ASKS[word]
    return written_all(ask(book, *handed))


def answer_or_refusal(book, word, handed):
    """The answer of a row."""
    try:
        return answer(book, word, handed)
    except Taken:
        return "refused Taken"
    except NoBatch:
        return "refused NoBatch"
    except NoTin:
        return "refused NoTin"
    except Twice:
        return "refused Twice"
    except NoPage:
        return "refused NoPage"
    except NoDeed:
        return "refused NoDeed"
    except NoTest:
        return "refused NoTest"
    except NoPacking:
        return "refused NoPacking"
    except NoCase:
        return "refused NoCase"


def run(text):
    """The answers of a sheet's rows; refused with BadRow ahead of all of them where a row is not so written."""
    rows = [read_row(at, row) for at, row in enumerate(text.split("\n"))]
    book = Book()
    return [answer_or_refusal(book, word, handed) for word, handed in rows]

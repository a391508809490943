"""Ladings: by the pages of a heap, where each packed case lies on a day, or what became of it."""

from tinrecall.stretches import both_of, either, set_of, without

# The words of the spots at which a case can be: (LYING, holder), (SOLD,), (BACK,), and (LACKING, number), with the
# number of the page by which it lacks. A packed case is at just one of them.
LYING = "lying"
SOLD = "sold"
BACK = "back"
LACKING = "lacking"

DONE = "done"

NAME_AT = {"pack": 1, "lade": 3, "sell": 2, "back": 2, "tell": 2}
ENDS = {"sell": "sold", "back": "back"}


def in_order(pages):
    """The pages as they are gone through: by day, those of one day by number."""
    return sorted(pages, key=lambda page: (page[0], page[1]))


def cases_at(store, word):
    """The set of the cases of a name at all spots of a word."""
    return set_of([stretch for spot in store if spot[0] == word for stretch in store[spot]])


def lay(store, spot, cases):
    """Puts cases at a spot, besides those that are there."""
    store[spot] = either(store.get(spot, []), cases)


def take(store, spot, asked):
    """Takes from a spot those of the asked cases that are there, and tells them."""
    there = store.get(spot, [])
    store[spot] = without(there, asked)
    return both_of(there, asked)


def carry(store, holder, goal, asked):
    """Puts those of the asked cases that lie with a holder at a goal; tells these, and the short ones."""
    carried = take(store, (LYING, holder), asked)
    lay(store, goal, carried)
    return carried, without(asked, carried)


# Each of these does a page with the store of its name, and tells the short cases and a list of triples
# (word, holder, cases): which cases it put somewhere, and with whom they lie then or lay.

def do_pack(store, number, deed):
    """Lays all cases with the holder."""
    many, holder = deed[2], deed[3]
    lay(store, (LYING, holder), [(0, many - 1)])
    return [], [("packed", holder, [(0, many - 1)])]


def do_lade(store, number, deed):
    """Carries cases from a holder to another one."""
    holder, other, first, last = deed[1], deed[2], deed[4], deed[5]
    carried, short = carry(store, holder, (LYING, other), [(first, last)])
    return short, [("laded", other, carried)]


def do_end(store, number, deed):
    """Sells cases that lie with a holder, or brings them back."""
    word = ENDS[deed[0]]
    holder, first, last = deed[1], deed[3], deed[4]
    carried, short = carry(store, holder, (word,), [(first, last)])
    return short, [(word, holder, carried)]


def do_tell(store, number, deed):
    """Has those that lie with the holder untold lack, and those told that lack lie with it."""
    holder, told = deed[1], deed[3]
    there = store.get((LYING, holder), [])
    lacking_spots = [spot for spot in store if spot[0] == LACKING]
    found = []
    for spot in lacking_spots:
        found = either(found, take(store, spot, told))
    untold = without(there, told)
    carry(store, holder, (LACKING, number), untold)
    lay(store, (LYING, holder), found)
    short = without(without(told, there), found)
    return short, [(LACKING, holder, untold), ("found", holder, found)]


DOING = {"pack": do_pack, "lade": do_lade, "sell": do_end, "back": do_end, "tell": do_tell}


def word_of(deed, packed):
    """The word by which a page is idle, or that it is done, packed having the names that were packed ahead of it."""
    name = deed[NAME_AT[deed[0]]]
    if deed[0] == "pack":
        return "packed" if name in packed else DONE
    if name not in packed:
        return "strange"
    return "same" if deed[0] == "lade" and deed[1] == deed[2] else DONE


def gone_through(heap, day):
    """The pages till a day gone through: the pair (stores, steps).

    Stores has for each packed name the sets of cases by their spots; steps has for each page, in order, the tuple
    (number, name, word, short, puts), puts the triples (word, holder, cases) of what it put somewhere.
    """
    stores = {}
    steps = []
    for page in in_order([one for one in heap if one[0] <= day]):
        number, deed = page[1], page[2]
        name = deed[NAME_AT[deed[0]]]
        word = word_of(deed, stores)
        short, puts = [], []
        if word == DONE:
            doing = DOING[deed[0]]
            short, puts = doing(stores.setdefault(name, {}), number, deed)
        steps.append((number, name, word, short, puts))
    return stores, steps


def lying_in(stores):
    """The rising list of triples (holder, name, cases) of the cases that lie with each holder."""
    return sorted([(spot[1], name, cases) for name, store in stores.items() for spot, cases in store.items()
                   if spot[0] == LYING and cases])


def ends_in(stores):
    """The rising list of triples (name, word, cases) of the cases that are back, lack or are sold."""
    ends = [(name, word, cases_at(stores[name], word)) for name in sorted(stores) for word in (BACK, LACKING, SOLD)]
    return [end for end in ends if end[2]]


def standing(heap, day):
    """The tuple (lying, ends, shorts, idle) of how all stands by the pages till a day."""
    stores, steps = gone_through(heap, day)
    shorts = [(number, short) for number, name, word, short, puts in steps if short]
    idle = [(number, word) for number, name, word, short, puts in steps if word != DONE]
    return (lying_in(stores), ends_in(stores), shorts, idle)

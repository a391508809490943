"""What several tests need: told things looked through, and [2] held against a whole call."""

import copy

BIG = 10 ** 30


def members(some):
    """The numbers of a small set, one by one."""
    return {number for first, last in some for number in range(first, last + 1)}


def stretches_of(numbers):
    """The set of stretches of some numbers, built number by number."""
    told = []
    for number in sorted(set(numbers)):
        if told and told[-1][1] == number - 1:
            told[-1] = (told[-1][0], number)
        else:
            told.append((number, number))
    return told


def subsets(many):
    """All sets of numbers below many, each as its list of numbers."""
    return [[k for k in range(many) if bits >> k & 1] for bits in range(2 ** many)]


def lists_in(thing):
    """Every list within a thing, itself too."""
    found = [thing] if isinstance(thing, list) else []
    if isinstance(thing, (list, tuple)):
        for part in thing:
            found += lists_in(part)
    return found


def tupled(thing):
    """A thing with a tuple for each of its lists."""
    if isinstance(thing, (list, tuple)):
        return tuple(tupled(part) for part in thing)
    return thing


def is_set(some):
    """Whether a told thing is a set as [3] has it, of plain whole numbers."""
    if type(some) is not list:
        return False
    for stretch in some:
        if type(stretch) is not tuple or len(stretch) != 2:
            return False
        if any(type(number) is not int or number < 0 for number in stretch) or stretch[0] > stretch[1]:
            return False
    return all(one[1] + 1 < other[0] for one, other in zip(some, some[1:]))


def is_marked(told):
    """Whether a told thing is a list of pairs (mark, set) with sets that aren't empty."""
    return type(told) is list and all(
        type(row) is tuple and len(row) == 2 and type(row[0]) is str and is_set(row[1]) and row[1] for row in told)


def spoil(told):
    """Changes every list of a told thing."""
    for one in lists_in(told):
        one.reverse()
        one.append("spoiled")


def holds_to_point_two(case, function, *handed):
    """Holds one call against [2], and tells what it told."""
    before = copy.deepcopy(handed)
    told = function(*handed)
    case.assertEqual(handed, before, "what is handed in was changed")
    kept = copy.deepcopy(told)
    again = function(*handed)
    case.assertEqual(again, kept, "asked again, something else was told")
    every = lists_in(told) + lists_in(again)
    case.assertEqual(len({id(one) for one in every}), len(every), "two told lists are one")
    ours = {id(one) for one in lists_in(handed)}
    case.assertFalse([one for one in every if id(one) in ours], "a handed list was told")
    case.assertEqual(function(*tupled(handed)), kept, "tuples for lists are told of otherwise")
    spoil(told)
    spoil(again)
    case.assertEqual(handed, before, "a told list was bound to what was handed in")
    case.assertEqual(function(*handed), kept, "a changed told list changed what is told")
    return kept

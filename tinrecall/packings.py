"""Packings of tins into cases: which tins a case has, and which cases have some tins."""

from tinrecall.stretches import both_of, set_of, without


def tins_packed(packing):
    """How many tins a packing has."""
    return sum(last - first + 1 for mark, first, last in packing[2])


def cases_of(packing):
    """How many cases a packing has."""
    size = packing[1]
    return (tins_packed(packing) + size - 1) // size


def spots_of(packing):
    """For each part the spot of its first tin, the tins of all parts being numbered as they are packed."""
    spots = []
    spot = 0
    for mark, first, last in packing[2]:
        spots.append(spot)
        spot += last - first + 1
    return spots


def tins_in(packing, case):
    """The triples (mark, first, last) of the tins of a case, one for each part; none of no case."""
    size = packing[1]
    told = []
    for spot, (mark, first, last) in zip(spots_of(packing), packing[2]):
        # A tin's spot less this is the tin.
        shift = spot - first
        low = max(first, case * size - shift)
        high = min(last, case * size + size - 1 - shift)
        if low <= high:
            told.append((mark, low, high))
    return told


def cases_touched(packing, chosen):
    """The set of the cases that have one of the chosen tins, chosen having a set for each part."""
    size = packing[1]
    touched = []
    for spot, part, some in zip(spots_of(packing), packing[2], chosen):
        shift = spot - part[1]
        touched.extend([((low + shift) // size, (high + shift) // size) for low, high in some])
    return set_of(touched)


def cases_with(packing, marked):
    """The set of the cases that have one of the marked tins at least."""
    sets = {mark: some for mark, some in marked}
    chosen = [both_of([(first, last)], sets.get(mark, [])) for mark, first, last in packing[2]]
    return cases_touched(packing, chosen)


def cases_all(packing, marked):
    """The set of the cases all of whose tins are marked."""
    sets = {mark: some for mark, some in marked}
    unmarked = [without([(first, last)], sets.get(mark, [])) for mark, first, last in packing[2]]
    every = set_of([(0, cases_of(packing) - 1)])
    return without(every, cases_touched(packing, unmarked))


def twice_in(pairs):
    """The set of the numbers that two or more of the pairs have."""
    twice = []
    reach = -1
    # Rising by their firsts, a pair has in common with those ahead of it what they reach beyond its first.
    for first, last in sorted(pairs):
        twice.append((first, min(last, reach)))
        reach = max(reach, last)
    return set_of(twice)


def packed_twice(packings):
    """The rising list of pairs (mark, set) of the tins that stand in parts twice or more."""
    pairs = {}
    for packing in packings:
        for mark, first, last in packing[2]:
            pairs.setdefault(mark, []).append((first, last))
    told = []
    for mark in sorted(pairs):
        some = twice_in(pairs[mark])
        if some:
            told.append((mark, some))
    return told

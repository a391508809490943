"""Sets of numbers as rising lists of stretches (first, last), with a gap between each two."""


def set_of(pairs):
    """The set of all numbers of the pairs, which may come in any order and overlap."""
    merged = []
    for first, last in sorted([pair for pair in pairs if pair[0] <= pair[1]]):
        # Side by side counts as joined: there must be a number between two stretches.
        if merged and first <= merged[-1][1] + 1:
            low, high = merged[-1]
            merged[-1] = (low, max(high, last))
        else:
            merged.append((first, last))
    return merged


def either(one, other):
    """The set of the numbers in one of two sets."""
    return set_of([*one, *other])


def both_of(one, other):
    """The set of the numbers in both of two sets."""
    shared = []
    at = 0
    to = 0
    while at < len(one) and to < len(other):
        first = max(one[at][0], other[to][0])
        last = min(one[at][1], other[to][1])
        if first <= last:
            shared.append((first, last))
        # Only the stretch that ends first can meet nothing more.
        if one[at][1] < other[to][1]:
            at += 1
        else:
            to += 1
    return shared


def gaps_of(some, begin, end):
    """The set of the numbers from begin to end that a set has not."""
    gaps = []
    start = begin
    for first, last in some:
        gaps.append((start, min(first - 1, end)))
        start = max(start, last + 1)
    gaps.append((start, end))
    return set_of(gaps)


def without(one, other):
    """The set of the numbers in the one but not in the other."""
    if not one:
        return []
    return both_of(one, gaps_of(other, one[0][0], one[-1][1]))


def count_of(some):
    """How many numbers a set has."""
    return sum(last - first + 1 for first, last in some)


def nth_of(some, n):
    """The number of a set than which just n of its numbers are less; None where there is none."""
    ahead = n
    for first, last in some:
        if ahead <= last - first:
            return first + ahead
        ahead -= last - first + 1
    return None


def is_in(some, number):
    """Whether a number is in a set."""
    return any(first <= number <= last for first, last in some)


def less_in(some, number):
    """How many numbers of a set are less than a number."""
    return sum(max(0, min(last + 1, number) - first) for first, last in some)

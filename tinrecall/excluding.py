"""By which tests no fault can have been."""

from tinrecall.suspects import BAD, GOOD, places_passed, suspects, windows_tested


def shown_at(batches, tests, place):
    """The triple (place, bad, good) of the tests by which no fault can have been at a place, none having been."""
    windows = windows_tested(batches, tests, place)
    bad = [number for number, test in enumerate(tests) if test[2] == BAD]
    for number in bad:
        if windows[number] is None:
            return (place, [number], [])
    # A fault meets all bad windows just where it meets the one that ends first and the one that begins last.
    ends_first = min(bad, key=lambda number: windows[number][1])
    begins_last = max(bad, key=lambda number: windows[number][0])
    good = [number for number, test in enumerate(tests) if test[2] == GOOD and windows[number] is not None]
    return (place, sorted({ends_first, begins_last}), good)


def none_shown(batches, tests):
    """The triples (place, bad, good) that show that no fault can have been; None where some can."""
    if suspects(batches, tests):
        return None
    return [shown_at(batches, tests, place) for place in places_passed(batches)]

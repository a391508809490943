"""Whether told tests show that no fault can have been."""

from tinrecall.checking import are_rising_below, is_row, is_tuple_of
from tinrecall.suspects import BAD, GOOD, fault_rows, places_passed, windows_tested

MOST_BAD = 2


def are_tests_of(numbers, tests, word):
    """Whether a thing is a rising list of numbers of tests of a word."""
    return are_rising_below(numbers, len(tests)) and all(tests[number][2] == word for number in numbers)


def shows_at(batches, tests, place, triple):
    """Whether a thing is a triple by which no fault can have been at a place."""
    if not is_tuple_of(triple, 3) or triple[0] != place:
        return False
    bad, good = triple[1], triple[2]
    if not are_tests_of(bad, tests, BAD) or not are_tests_of(good, tests, GOOD):
        return False
    if not 1 <= len(bad) <= MOST_BAD:
        return False
    windows = windows_tested(batches, tests, place)
    met = [windows[number] for number in bad]
    if None in met:
        return len(bad) == 1 and len(good) == 0
    return fault_rows(met, [windows[number] for number in good if windows[number] is not None]) == []


def shows_none(batches, tests, told):
    """Whether a thing is a list of triples that show, place by place, that no fault can have been."""
    places = places_passed(batches)
    if not is_row(told) or len(told) != len(places):
        return False
    return all(shows_at(batches, tests, place, triple) for place, triple in zip(places, told))

"""What the checkers ask of told things, which may be of any kind."""


def is_row(thing):
    """Whether a thing may stand where a list is named."""
    return isinstance(thing, (list, tuple))


def is_tuple_of(thing, many):
    """Whether a thing is a tuple of so many things."""
    return isinstance(thing, tuple) and len(thing) == many


def is_number(thing):
    """Whether a thing is a whole number from 0 up."""
    return isinstance(thing, int) and not isinstance(thing, bool) and thing >= 0


def are_numbers(thing):
    """Whether a thing is a list of numbers."""
    return is_row(thing) and all(is_number(one) for one in thing)


def are_rising(thing):
    """Whether a thing is a rising list of numbers."""
    return are_numbers(thing) and all(one < other for one, other in zip(thing, thing[1:]))


def are_rising_below(thing, many):
    """Whether a thing is a rising list of numbers below many."""
    return are_rising(thing) and all(one < many for one in thing)

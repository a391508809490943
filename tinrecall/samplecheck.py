"""Whether told samples are as few, and told places as cheap, as can be."""

from tinrecall.checking import are_numbers, are_rising, are_rising_below, is_number, is_tuple_of
from tinrecall.stretches import both_of, is_in, without


def each_has_one(runs, numbers):
    """Whether each run has one of the numbers."""
    return all(any(first <= number <= last for number in numbers) for first, last in runs)


def are_apart(runs, gone, apart):
    """Whether no two of the runs of these numbers have a number in both that isn't gone."""
    left = [without([runs[number]], gone) for number in apart]
    return all(both_of(left[one], left[other]) == [] for other in range(len(left)) for one in range(other))


def shows_blind(runs, gone, told):
    """Whether a thing is ("blind", k), k the first run all of which is gone."""
    if not is_tuple_of(told, 2) or told[0] != "blind" or not is_number(told[1]):
        return False
    left = [without([run], gone) for run in runs]
    return [] in left and told[1] == left.index([])


def shows_fewest(runs, gone, told):
    """Whether a thing is ("samples", numbers, apart), numbers as few as can be."""
    if not is_tuple_of(told, 3) or told[0] != "samples":
        return False
    numbers, apart = told[1], told[2]
    if not are_rising(numbers) or not are_rising_below(apart, len(runs)) or len(numbers) != len(apart):
        return False
    if any(is_in(gone, number) for number in numbers) or not each_has_one(runs, numbers):
        return False
    # Each of these runs needs a sample of its own, so fewer would miss one.
    return are_apart(runs, gone, apart)


def shows_samples(runs, gone, told):
    """Whether a thing is what least_samples may tell."""
    return shows_blind(runs, gone, told) or shows_fewest(runs, gone, told)


def are_payable(prices, runs, dues):
    """Whether at each place the dues of the runs that have it are together at most its price."""
    for place, price in enumerate(prices):
        if sum(due for run, due in zip(runs, dues) if run[0] <= place <= run[1]) > price:
            return False
    return True


def shows_cost(prices, runs, told):
    """Whether a thing is what least_cost may tell."""
    if not is_tuple_of(told, 3) or not is_number(told[0]):
        return False
    cost, places, dues = told
    if not are_rising_below(places, len(prices)) or not are_numbers(dues) or len(dues) != len(runs):
        return False
    if sum(prices[place] for place in places) != cost or not each_has_one(runs, places):
        return False
    # All places that serve cost at least the dues together, so none cost less.
    return sum(dues) == cost and are_payable(prices, runs, dues)

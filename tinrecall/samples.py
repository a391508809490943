"""The fewest tins to be opened."""

from tinrecall.stretches import without


def least_samples(runs, gone):
    """The fewest numbers, none gone, of which each run has one, and as many runs apart; or the first run all gone."""
    left = [without([run], gone) for run in runs]
    if [] in left:
        return ("blind", left.index([]))
    # Gone through by their last numbers left: a run that has no sample yet begins behind all of them, so it has no
    # number left in common with the runs that they were taken for.
    numbers = []
    apart = []
    for place in sorted(range(len(left)), key=lambda at: left[at][-1][1]):
        first, last = left[place][0][0], left[place][-1][1]
        if not numbers or numbers[-1] < first:
            numbers.append(last)
            apart.append(place)
    return ("samples", numbers, sorted(apart))


def samples_needed(many, width):
    """The fewest samples that see a fault of width following tins among many, wherever it is."""
    return many // width


def first_missed(many, width, samples):
    """The first tin of the first width following ones of many that have no sample; None where none are missed."""
    start = 0
    for sample in sorted(samples):
        if start + width <= sample:
            break
        start = max(start, sample + 1)
    return start if start + width <= many else None

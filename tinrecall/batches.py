"""Batches of tins: at which minutes which tins were where."""

from tinrecall.stretches import set_of

LINE = "line"


def pass_at(batch, place):
    """A batch's pass of a place; None where it has none."""
    for passed in batch[2]:
        if passed[1] == place:
            return passed
    return None


def window(batch, place, tin):
    """The first and last minute at which a tin is at a place; None where the batch has no pass of it."""
    passed = pass_at(batch, place)
    if passed is None:
        return None
    if passed[0] == LINE:
        minute = passed[2] + tin * passed[3] // passed[4]
        return (minute, minute)
    first, last = passed[3][tin // passed[2]]
    return (first, last)


def count_ahead(tins, line, minute):
    """How many tins pass a line ahead of a minute."""
    start, long, by = line[2], line[3], line[4]
    if minute <= start:
        return 0
    if long == 0:
        return tins
    # The tin k passes ahead of it where k * long is less than this span; the count is rounded up.
    span = (minute - start) * by
    return min(tins, (span + long - 1) // long)


def tins_on_line(tins, line, first, last):
    """The set of the tins that pass a line from the minute first to last (None: without end)."""
    begin = count_ahead(tins, line, first)
    end = tins if last is None else count_ahead(tins, line, last + 1)
    return set_of([(begin, end - 1)])


def tins_of_rack(tins, per, rack):
    """The pair of the first and last tin of a rack, the first above the last where there is no such rack."""
    return (rack * per, min(rack * per + per, tins) - 1)


def tins_in_stays(tins, racked, first, last):
    """The set of the tins whose racks' stays meet the minutes from first to last (None: without end)."""
    per, stays = racked[2], racked[3]
    met = []
    for rack, (begin, end) in enumerate(stays):
        if first <= end and (last is None or begin <= last):
            met.append(tins_of_rack(tins, per, rack))
    return set_of(met)


def tins_at(batch, place, first, last):
    """The set of the tins that are at a place at some minute from first to last (None: without end)."""
    passed = pass_at(batch, place)
    if passed is None or (last is not None and first > last):
        return []
    if passed[0] == LINE:
        return tins_on_line(batch[1], passed, first, last)
    return tins_in_stays(batch[1], passed, first, last)


def tins_in_racks(batch, place, racks):
    """The set of the tins that are in one of these racks at a place; none where it has no racks."""
    passed = pass_at(batch, place)
    if passed is None or passed[0] == LINE:
        return []
    return set_of([tins_of_rack(batch[1], passed[2], rack) for rack in racks])

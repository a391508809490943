"""Marks that were half read: what a reading is, and which marks it fits."""

from tinrecall.errors import BadReading

SIGNS = "abcdefghijklmnopqrstuvwxyz0123456789"
UNREAD = "?"
LOST = "*"
FEWEST_IN_CHOICE = 2
MOST_IN_CHOICE = 6


def is_choice(signs):
    """Whether signs may stand between brackets."""
    if not FEWEST_IN_CHOICE <= len(signs) <= MOST_IN_CHOICE:
        return False
    return len(set(signs)) == len(signs) and all(sign in SIGNS for sign in signs)


def parts_of(text):
    """The parts of a reading, each `?`, `*` or the signs that fit it; None of what is no reading."""
    parts = []
    at = 0
    while at < len(text):
        part = text[at]
        if part == "[":
            end = text.find("]", at)
            part = text[at + 1:max(at, end)]
            if not is_choice(part):
                return None
            at = end
        elif part not in SIGNS + UNREAD + LOST:
            return None
        parts.append(part)
        at += 1
    # A reading has a part at least.
    return parts if parts else None


def is_reading(text):
    """Whether a text is a reading."""
    return parts_of(text) is not None


def parts_or_refuse(reading):
    """The parts of a reading; refused with BadReading where it is none."""
    parts = parts_of(reading)
    if parts is None:
        raise BadReading("this is no reading")
    return parts


def slip_of(part, sign):
    """1 where a sign of a mark is another than its part has, else 0."""
    return 0 if part == UNREAD or sign in part else 1


def behind_lost(slips):
    """The row of fewest slips behind a `*`, which may take any count of signs without a slip."""
    row = []
    best = None
    for count in slips:
        if best is None or (count is not None and count < best):
            best = count
        row.append(best)
    return row


def behind_sign(part, mark, slips):
    """The row of fewest slips behind a part that takes one sign."""
    row = [None]
    for sign, count in zip(mark, slips):
        row.append(None if count is None else count + slip_of(part, sign))
    return row


def fewest(parts, mark):
    """The fewest slips with which the parts fit a mark; None where they don't."""
    # At k stands the fewest slips with which the parts so far take just the first k signs: so
    # each part costs one walk over the mark, however many `*` there are.
    slips = [0] + [None] * len(mark)
    for part in parts:
        slips = behind_lost(slips) if part == LOST else behind_sign(part, mark, slips)
    return slips[len(mark)]


def least_slips(reading, mark):
    """The fewest slips with which a reading fits a mark; None where it doesn't."""
    return fewest(parts_or_refuse(reading), mark)


def marks_read(reading, marks, slips):
    """The marks, as they stand, that a reading fits with at most so many slips."""
    parts = parts_or_refuse(reading)
    fitting = []
    for mark in marks:
        count = fewest(parts, mark)
        if count is not None and count <= slips:
            fitting.append(mark)
    return fitting

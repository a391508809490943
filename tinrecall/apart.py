"""The fewest places at which a mark must be read to be told from others."""


def sign_at(mark, place):
    """The sign of a mark at a place; None where the mark is shorter."""
    return mark[place] if place < len(mark) else None


def unlike_places(mark, other):
    """The places at which two marks are unlike, a sign against none counted too."""
    longest = max(len(mark), len(other))
    return [place for place in range(longest) if sign_at(mark, place) != sign_at(other, place)]


def meets_each(places, rows):
    """Whether each of the rows has one of the places."""
    return all(any(place in row for place in places) for row in rows)


def one_place_more(choices, many):
    """All choices with one place more behind their last, in the order of rising lists."""
    longer = []
    for places in choices:
        start = places[-1] + 1 if places else 0
        longer.extend([[*places, place] for place in range(start, many)])
    return longer


def places_apart(marks, mark):
    """The first of the smallest rising lists of places that tell a mark from each other one."""
    rows = [unlike_places(mark, other) for other in marks if other != mark]
    many = max(len(one) for one in marks)
    choices = [[]]
    while choices:
        for places in choices:
            if meets_each(places, rows):
                return places
        choices = one_place_more(choices, many)
    # Never come to where the marks are unlike: all places together tell them apart.
    return []

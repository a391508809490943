"""The places of least cost such that each run has one."""


def furthest_back(many, runs):
    """For each spot the least one at which the place taken ahead of it may stand without a run being missed."""
    # The spot 0 stands ahead of all places, k + 1 is the place k, and the last one stands behind them all.
    backs = [0] * (many + 2)
    for first, last in runs:
        backs[last + 2] = max(backs[last + 2], first + 1)
    for spot in range(many + 1):
        backs[spot + 1] = max(backs[spot + 1], backs[spot])
    return backs


def least_places(prices, runs):
    """Some rising list of places of least cost such that each run has one."""
    backs = furthest_back(len(prices), runs)
    # For each spot: the least cost up to it where it is taken, and the spot taken ahead of it then.
    costs = [0]
    ahead = [0]
    for spot, price in enumerate([*prices, 0], start=1):
        cost, back = min([(costs[one], one) for one in range(backs[spot], spot)])
        costs.append(cost + price)
        ahead.append(back)
    places = []
    spot = ahead[-1]
    while spot > 0:
        places.append(spot - 1)
        spot = ahead[spot]
    return places[::-1]


def most_dues(prices, runs):
    """Some dues of the runs, at each place together at most its price, that are together as much as can be."""
    # Gone through by their last places each run takes all that is left to it. That loses nothing: one that comes
    # later and has a place of it has all its places behind that one, too, so it can give way to it one for one.
    left = list(prices)
    dues = [0] * len(runs)
    for at in sorted(range(len(runs)), key=lambda one: runs[one][1]):
        first, last = runs[at]
        due = min(left[first:last + 1])
        dues[at] = due
        for place in range(first, last + 1):
            left[place] -= due
    return dues


def least_cost(prices, runs):
    """The tuple (cost, places, dues) of the least cost of places such that each run has one."""
    places = least_places(prices, runs)
    return (sum(prices[place] for place in places), places, most_dues(prices, runs))

"""Plans: when something is surely shared, and how soon it may be."""

from hearsay.nets import fewest, sure_times


def surely(net, house, houses):
    times = sure_times(net, house)
    wanted = [times[other] for other in houses]
    return None if None in wanted else max(wanted)


def fastest(net, last, signs):
    runs = []
    for path in net[1]:
        runs.extend([(path[0], path[1], left, left + 1) for left in range(last)])
    return (last, sorted(runs), sorted(signs))


def soonest(net, house, houses, last):
    """The least turn at which some house may have heard of the sign from which all of them have surely heard then."""
    turns = []
    for middle, ahead in enumerate(fewest(net, house)):
        behind = surely(net, middle, houses)
        if ahead is not None and behind is not None and ahead + behind <= last:
            turns.append(ahead + behind)
    return min(turns, default=None)

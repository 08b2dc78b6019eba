"""Nets: tuples (houses, paths), the paths a list of tuples (start, goal, most)."""

from hearsay.errors import NoNet

MOST_HOUSES = 8


def check_net(net):
    houses = net[0]
    if not 1 <= houses <= MOST_HOUSES:
        raise NoNet(f"not 1 to {MOST_HOUSES} houses: {houses}")
    for path in net[1]:
        check_path(houses, path)
    ends = [(path[0], path[1]) for path in net[1]]
    if len(set(ends)) < len(ends):
        raise NoNet("two paths have the same start and goal")


def check_path(houses, path):
    if not is_house(houses, path[0]) or not is_house(houses, path[1]):
        raise NoNet(f"a path's start or goal is no house: {path!r}")
    if path[0] == path[1]:
        raise NoNet(f"a path from a house to itself: {path!r}")
    if path[2] is not None and path[2] < 1:
        raise NoNet(f"a most below 1: {path!r}")


def is_house(houses, house):
    return 0 <= house < houses


def path_mosts(net):
    mosts = {}
    for start, goal, most in net[1]:
        mosts[(start, goal)] = most
    return mosts


def sure_times(net, house):
    return [None if best is None else best[0] for best in sure_bests(net, house)]


def sure_way(net, one, other):
    best = sure_bests(net, one)[other]
    return None if best is None else best[1]


def fewest(net, house):
    steps = [(path[0], path[1], 1) for path in net[1]]
    return [None if best is None else best[0] for best in least_ways(net[0], steps, house)]


def sure_bests(net, house):
    steps = [path for path in net[1] if path[2] is not None]
    return least_ways(net[0], steps, house)


def least_ways(houses, steps, house):
    bests = [None] * houses
    bests[house] = (0, [house])
    # Every step costs something, so a least way meets no house twice: it has fewer steps than there are houses.
    for lap in range(houses - 1):
        for start, goal, cost in steps:
            ahead = bests[start]
            if ahead is not None and is_less(ahead[0] + cost, bests[goal]):
                bests[goal] = (ahead[0] + cost, ahead[1] + [goal])
    return bests


def is_less(total, best):
    return best is None or total < best[0]

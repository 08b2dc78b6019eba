"""Acting by one's own eyes: at one and the same turn, or one behind the other."""

from hearsay.heard import first_hearing
from hearsay.looks import slowest
from hearsay.stands import all_sure_times, first_hub, hub, in_time, name_firsts


def acts(net, view, name, houses):
    turn = view[0][1]
    # A hub is heard by each of the houses, so each tale that looks the same has it, whatever its last turn.
    return hub(net, slowest(net, view, turn), name, houses, turn) is not None


def first_act(net, tale, name, houses):
    best = first_hub(net, tale, name, houses)
    return None if best is None or best[0] > tale[0] else best[0]


def in_row(net, tale, name, houses):
    times = all_sure_times(net)
    firsts = first_hearing(tale, name_firsts(net, tale, name))
    turns = []
    for turn in range(tale[0] + 1):
        know = count_in_row(tale, times, firsts, [(house, turn) for house in houses])
        turns.extend([turn] * (know - len(turns)))
    return turns + [None] * (len(houses) - len(turns))


def count_in_row(tale, times, firsts, spots):
    """How many of the spots, from the first one on, know that the one before knows and so on, by stands of each."""
    know = 0
    for spot in spots:
        first = firsts[spot[0]]
        if first is None or first > spot[1]:
            return know
        know += 1
        firsts = first_hearing(tale, in_time(times, firsts, spot))
    return know

"""Stands and hubs: spots from which others are surely reached in time, so that they show what is known or shared.

Firsts are a list, at each house's place the first turn of it that is meant, None where none is.
"""

from hearsay.heard import first_hearing, heard_by
from hearsay.nets import sure_times
from hearsay.plans import surely


def stands_of(net, tale, sign, spots):
    times = all_sure_times(net)
    rows = [firsts_of(net, [sign])]
    for spot in reversed(spots[1:]):
        rows.append(in_time(times, first_hearing(tale, rows[-1]), spot))
    stands = [spots[0]]
    for firsts in reversed(rows):
        stand = one_heard(heard_by(net, tale, stands[-1]), firsts)
        if stand is None:
            return None
        stands.append(stand)
    # The last one found is the sign's own spot.
    return stands[:-1]


def hub(net, tale, name, houses, turn):
    best = first_hub(net, tale, name, houses)
    return None if best is None or best[0] > turn else best[1]


def first_hub(net, tale, name, houses):
    """A tuple of the first turn for which there is a hub, maybe one behind the last, and that hub; None without one."""
    best = None
    for house, first in enumerate(first_hearing(tale, name_firsts(net, tale, name))):
        time = surely(net, house, houses)
        if first is not None and time is not None and (best is None or first + time < best[0]):
            best = (first + time, (house, first))
    return best


def name_firsts(net, tale, name):
    return firsts_of(net, [sign for sign in tale[2] if sign[2] == name])


def firsts_of(net, signs):
    firsts = [None] * net[0]
    for house, turn, name in signs:
        if firsts[house] is None or turn < firsts[house]:
            firsts[house] = turn
    return firsts


def all_sure_times(net):
    return [sure_times(net, house) for house in range(net[0])]


def in_time(times, firsts, spot):
    """Those of the firsts alone from which the spot's house is surely reached until its turn."""
    goal = spot[0]
    kept = []
    for house, first in enumerate(firsts):
        time = times[house][goal]
        late = first is None or time is None or first + time > spot[1]
        kept.append(None if late else first)
    return kept


def one_heard(heard, firsts):
    for house, first in enumerate(firsts):
        if first is not None and first <= heard[house]:
            return (house, first)
    return None

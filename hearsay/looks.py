"""What looks the same: views are tuples (spot, runs, signs), what a spot has seen."""

from hearsay.heard import heard_by
from hearsay.tales import run_key


def seen(net, tale, spot):
    heard = heard_by(net, tale, spot)
    runs = [run for run in tale[1] if run[3] <= heard[run[1]]]
    signs = [sign for sign in tale[2] if sign[1] <= heard[sign[0]]]
    return (spot, sorted(runs), sorted(signs))


def alike(net, one, other, spot):
    return seen(net, one, spot) == seen(net, other, spot)


def slowest(net, view, last):
    told = {}
    for run in view[1]:
        told[run_key(run)] = True
    runs = list(view[1])
    for path in net[1]:
        if path[2] is not None:
            runs.extend([run for run in latest_runs(path, last) if run_key(run) not in told])
    return (last, sorted(runs), sorted(view[2]))


def latest_runs(path, last):
    most = path[2]
    return [(path[0], path[1], left, left + most) for left in range(last - most + 1)]


def slowed(net, tale, spot):
    """The slowest tale, with the same last turn, of those that look the same to the spot."""
    return slowest(net, seen(net, tale, spot), tale[0])

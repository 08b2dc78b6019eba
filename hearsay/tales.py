"""Tales: tuples (last, runs, signs), and whether one is good for a net."""

from hearsay.errors import NoPath, OutOfTime, TooLate, Twice
from hearsay.nets import is_house, path_mosts

LAST_BOUND = 60


def check_tale(net, tale):
    # The order is promised: a tale with several faults is refused by the first of these.
    check_places(net, tale)
    check_turns(tale)
    check_unlike(tale)
    check_mosts(net, tale)


def check_places(net, tale):
    mosts = path_mosts(net)
    for run in tale[1]:
        if (run[0], run[1]) not in mosts:
            raise NoPath(f"no path for the run {run!r}")
    for sign in tale[2]:
        if not is_house(net[0], sign[0]):
            raise NoPath(f"no house for the sign {sign!r}")


def check_turns(tale):
    last = tale[0]
    if not 0 <= last <= LAST_BOUND:
        raise OutOfTime(f"the last turn is not one of 0 to {LAST_BOUND}: {last}")
    for run in tale[1]:
        if not 0 <= run[2] < run[3] <= last:
            raise OutOfTime(f"a run out of the tale's turns: {run!r}")
    for sign in tale[2]:
        if not 0 <= sign[1] <= last:
            raise OutOfTime(f"a sign out of the tale's turns: {sign!r}")


def check_unlike(tale):
    runners = [run_key(run) for run in tale[1]]
    if len(set(runners)) < len(runners):
        raise Twice("two runs have the same start, goal and left")
    if len(set(tale[2])) < len(tale[2]):
        raise Twice("two signs are the same")


def run_key(run):
    return (run[0], run[1], run[2])


def check_mosts(net, tale):
    check_runs_in_time(net, tale[1])
    told = {}
    for run in tale[1]:
        told[run_key(run)] = True
    for path in net[1]:
        if path[2] is not None:
            check_all_came(path, tale[0], told)


def check_runs_in_time(net, runs):
    mosts = path_mosts(net)
    for run in runs:
        most = mosts[(run[0], run[1])]
        if most is not None and run[3] > run[2] + most:
            raise TooLate(f"later than left and most together: {run!r}")


def check_all_came(path, last, told):
    # A runner who was due after the last turn may still be on his way.
    for left in range(last - path[2] + 1):
        if (path[0], path[1], left) not in told:
            raise TooLate(f"on the path {path!r} the runner that left at {left} should have come")

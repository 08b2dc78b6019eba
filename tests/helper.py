"""What several test files need."""

import copy

from hearsay.errors import HearError, NoNet, NoPath, OutOfTime, TooLate, Twice

REFUSALS = (NoNet, NoPath, OutOfTime, Twice, TooLate)

# The greatest and the least number of sixty figures.
GREATEST = 10 ** 60 - 1
LEAST = -GREATEST


def refusal(ask, *handed):
    """The very class with which a call refuses; None where it gives back None."""
    try:
        answer = ask(*handed)
    except HearError as error:
        return type(error)
    if answer is not None:
        raise AssertionError(f"gave back {answer!r}")
    return None


def leaves_alone(test, ask, *handed):
    """Checks that a call, refused or not, changes nothing that is handed in, and gives back its answer."""
    before = copy.deepcopy(handed)
    try:
        return ask(*handed)
    except HearError:
        return None
    finally:
        test.assertEqual(before, handed)


def is_own(test, ask, *handed):
    """Checks that a list that was told, changed by the asker, changes nothing that is told later."""
    first = ask(*handed)
    kept = list(first)
    first.append("mine")
    first[0] = "mine"
    second = ask(*handed)
    test.assertEqual(kept, second)
    second.clear()
    test.assertEqual(kept, ask(*handed))


def due_runs(net, last):
    """For each path with a most the runs that come as late as they may."""
    runs = []
    for start, goal, most in net[1]:
        if most is not None:
            left = 0
            while left + most <= last:
                runs.append((start, goal, left, left + most))
                left += 1
    return runs

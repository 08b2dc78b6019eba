import itertools
import unittest

from hearsay.errors import NoPath, OutOfTime, TooLate, Twice
from hearsay.tales import check_tale
from tests.helper import GREATEST, LEAST, due_runs, leaves_alone, refusal

# A path with a most, one without, one that is never due; none from 2 to 0, and 3 alone.
NET = (4, [(0, 1, 2), (1, 0, None), (1, 2, GREATEST)])
LOOSE = (2, [(0, 1, None), (1, 0, None)])
EIGHT = (8, [(start, goal, None) for start in range(8) for goal in range(8) if start != goal])


def by_the_words(net, tale):
    """Point 7 over again, word by word."""
    last, runs, signs = tale
    mosts = {path[:2]: path[2] for path in net[1]}
    due = [(start, goal, left) for start, goal, left, come in due_runs(net, last)]
    if any(run[:2] not in mosts for run in runs) or any(sign[0] not in range(net[0]) for sign in signs):
        return NoPath
    if last not in range(61) or any(left < 0 or come <= left or come > last for start, goal, left, come in runs):
        return OutOfTime
    if any(sign[1] not in range(last + 1) for sign in signs):
        return OutOfTime
    runners = [run[:3] for run in runs]
    if any(runners.count(runner) > 1 for runner in runners) or any(signs.count(sign) > 1 for sign in signs):
        return Twice
    if any(mosts[run[:2]] is not None and run[3] > run[2] + mosts[run[:2]] for run in runs):
        return TooLate
    return TooLate if any(runner not in runners for runner in due) else None


class Checked(unittest.TestCase):
    def good(self, net, tale):
        self.assertIsNone(refusal(check_tale, net, tale), tale)

    def refused(self, kind, net, tale):
        self.assertEqual(kind, refusal(check_tale, net, tale), tale)


class GoodTales(Checked):
    def test_empty(self):
        self.good((1, []), (0, [], []))
        self.good((1, []), (60, [], []))
        self.good((8, []), (60, [], []))
        self.good(NET, (0, [], []))
        self.good(NET, (1, [], []))
        self.good(LOOSE, (60, [], []))

    def test_runs_and_signs_in_any_order(self):
        runs = [(0, 1, 0, 2), (0, 1, 1, 2), (1, 0, 2, 3), (1, 2, 0, 3)]
        signs = [(3, 0, "a"), (0, 3, "b"), (0, 0, "zzzzzzzzzzzz")]
        for ordered in itertools.permutations(runs):
            for placed in itertools.permutations(signs):
                self.good(NET, (3, list(ordered), list(placed)))

    def test_runners_may_overtake_one_another(self):
        self.good(LOOSE, (9, [(0, 1, 0, 9), (0, 1, 1, 2), (0, 1, 2, 9)], []))

    def test_last_of_sixty(self):
        net = (3, [(0, 1, 1), (1, 2, 60), (2, 0, 61), (2, 1, GREATEST)])
        self.good(net, (60, due_runs(net, 60), [(2, 60, "late")]))
        self.good(LOOSE, (60, [(0, 1, 59, 60), (1, 0, 0, 60)], []))

    def test_four_thousand_runs(self):
        runs = [(start, goal, left, 60) for start, goal, most in EIGHT[1] for left in range(60)]
        self.good(EIGHT, (60, runs, []))
        self.assertLess(len(runs), 4000)
        self.refused(Twice, EIGHT, (60, runs + runs[:4000 - len(runs)], []))
        far = [(start, goal, left, come) for come in range(61, 200) for start, goal, left, early in runs]
        self.refused(OutOfTime, EIGHT, (60, far[:4000], []))

    def test_signs_that_differ_in_one_thing(self):
        self.good(NET, (3, due_runs(NET, 3), [(0, 1, "a"), (0, 1, "b"), (0, 2, "a"), (1, 1, "a")]))

    def test_forty_signs(self):
        self.good(LOOSE, (19, [], [(house, turn, "a") for house in range(2) for turn in range(20)]))


class NoPaths(Checked):
    def test_a_run_without_a_path(self):
        for start, goal in ((2, 0), (0, 2), (2, 1), (3, 0), (0, 3), (0, 0), (3, 3)):
            self.refused(NoPath, NET, (1, [(start, goal, 0, 1)], []))
        self.refused(NoPath, (2, []), (1, [(0, 1, 0, 1)], []))
        self.refused(NoPath, (2, [(0, 1, None)]), (1, [(0, 1, 0, 1), (1, 0, 0, 1)], []))

    def test_a_run_of_no_house(self):
        for wrong in (-1, -3, -4, 4, 5, GREATEST, LEAST):
            self.refused(NoPath, NET, (1, [(wrong, 1, 0, 1)], []))
            self.refused(NoPath, NET, (1, [(0, wrong, 0, 1)], []))

    def test_a_sign_at_no_house(self):
        for wrong in (-1, -4, 4, 5, GREATEST, LEAST):
            self.refused(NoPath, NET, (1, [], [(wrong, 0, "a")]))
            self.refused(NoPath, NET, (1, [], [(0, 0, "a"), (wrong, 0, "a")]))
        self.refused(NoPath, (1, []), (0, [], [(1, 0, "a")]))
        self.good(NET, (1, [], [(3, 0, "a")]))


class OutOfTimes(Checked):
    def test_last(self):
        for last in (-1, -2, 61, 62, GREATEST, LEAST):
            self.refused(OutOfTime, (1, []), (last, [], []))
            self.refused(OutOfTime, LOOSE, (last, [], []))
            self.refused(OutOfTime, NET, (last, [], []))
        self.refused(OutOfTime, LOOSE, (61, [(0, 1, 0, 1)], []))
        self.refused(OutOfTime, LOOSE, (61, [], [(0, 0, "a")]))

    def test_a_run_that_left_ahead_of_turn_0(self):
        self.good(LOOSE, (5, [(0, 1, 0, 1)], []))
        for left in (-1, -2, LEAST):
            self.refused(OutOfTime, LOOSE, (5, [(0, 1, left, 1)], []))
            self.refused(OutOfTime, LOOSE, (5, [(0, 1, left, 0)], []))
            self.refused(OutOfTime, LOOSE, (5, [(0, 1, 0, 1), (0, 1, left, 1)], []))

    def test_a_run_that_came_not_later_than_it_left(self):
        self.good(LOOSE, (5, [(0, 1, 3, 4)], []))
        for come in (3, 2, 0, -1, LEAST):
            self.refused(OutOfTime, LOOSE, (5, [(0, 1, 3, come)], []))
        self.refused(OutOfTime, LOOSE, (0, [(0, 1, 0, 0)], []))
        self.refused(OutOfTime, LOOSE, (60, [(0, 1, 60, 60)], []))

    def test_a_run_that_came_later_than_last(self):
        self.good(LOOSE, (5, [(0, 1, 3, 5)], []))
        for come in (6, 7, 61, GREATEST):
            self.refused(OutOfTime, LOOSE, (5, [(0, 1, 3, come)], []))
        self.refused(OutOfTime, LOOSE, (60, [(0, 1, 60, 61)], []))
        self.refused(OutOfTime, LOOSE, (5, [(0, 1, GREATEST - 1, GREATEST)], []))
        self.refused(OutOfTime, LOOSE, (0, [(0, 1, 0, 1)], []))

    def test_a_signs_turn(self):
        for last in (0, 1, 60):
            self.good(LOOSE, (last, [], [(0, 0, "a")]))
            self.good(LOOSE, (last, [], [(1, last, "a")]))
            for turn in (-1, -2, last + 1, last + 2, GREATEST, LEAST):
                self.refused(OutOfTime, LOOSE, (last, [], [(0, turn, "a")]))
                self.refused(OutOfTime, LOOSE, (last, [], [(0, 0, "a"), (0, turn, "a")]))


class Twices(Checked):
    def test_two_runs(self):
        for first, second in ((1, 1), (1, 2), (2, 1)):
            self.refused(Twice, LOOSE, (3, [(0, 1, 0, first), (0, 1, 0, second)], []))
            self.refused(Twice, LOOSE, (3, [(0, 1, 0, first), (1, 0, 0, 1), (0, 1, 0, second)], []))

    def test_runs_that_differ_in_one_thing(self):
        self.good((3, EIGHT[1][:1] + [(0, 2, None), (2, 1, None)]),
                  (3, [(0, 1, 0, 3), (0, 1, 1, 3), (0, 2, 0, 3), (2, 1, 0, 3)], []))

    def test_two_signs(self):
        self.refused(Twice, LOOSE, (3, [], [(0, 1, "a"), (0, 1, "a")]))
        self.refused(Twice, LOOSE, (3, [], [(0, 1, "a"), (1, 1, "a"), (0, 1, "b"), (0, 1, "a")]))


class TooLates(Checked):
    def test_a_run_just_in_time_and_one_turn_later(self):
        for most in (1, 2, 30):
            net = (2, [(0, 1, most)])
            for left in (0, 1, 5):
                last = left + most + 1
                runs = due_runs(net, last)
                runs.remove((0, 1, left, left + most))
                self.good(net, (last, runs + [(0, 1, left, left + most)], []))
                self.refused(TooLate, net, (last, runs + [(0, 1, left, left + most + 1)], []))

    def test_no_run_told_just_at_last_and_beyond(self):
        for most in (1, 2, 59, 60):
            net = (2, [(0, 1, most)])
            for last in range(most, 61):
                runs = due_runs(net, last)
                self.assertEqual((0, 1, last - most, last), runs[-1])
                self.good(net, (last, runs, []))
                self.refused(TooLate, net, (last, runs[:-1], []))
                self.refused(TooLate, net, (last, runs[1:], []))
            self.good(net, (most - 1, [], []))
            self.refused(TooLate, net, (most, [], []))

    def test_each_run_that_is_due_is_missed(self):
        net = (3, [(0, 1, 1), (1, 2, 3), (2, 0, None), (2, 1, 4)])
        runs = due_runs(net, 6)
        self.good(net, (6, runs, []))
        for run in runs:
            self.refused(TooLate, net, (6, [other for other in runs if other != run], []))

    def test_a_run_of_another_path_or_left_does_not_stand_in(self):
        net = (2, [(0, 1, 3), (1, 0, None)])
        self.refused(TooLate, net, (3, [(1, 0, 0, 1)], []))
        self.refused(TooLate, net, (3, [(0, 1, 1, 2)], []))

    def test_most_beyond_the_tale(self):
        for most in (61, GREATEST):
            self.good((2, [(0, 1, most)]), (60, [], []))
            self.good((2, [(0, 1, most)]), (60, [(0, 1, 0, 60)], []))
        self.good((2, [(0, 1, 60)]), (59, [], []))

    def test_without_a_most_nothing_is_due(self):
        self.good(LOOSE, (60, [(0, 1, 0, 60)], []))


class SeveralFaults(Checked):
    # Each is one fault: its refusal, what it puts to the runs, and what it puts to the signs.
    FAULTS = (
        (NoPath, [(1, 2, 0, 1)], []),
        (NoPath, [], [(3, 0, "a")]),
        (OutOfTime, [(1, 0, -1, 1)], []),
        (OutOfTime, [(1, 0, 2, 2)], []),
        (OutOfTime, [(1, 0, 2, 6)], []),
        (OutOfTime, [], [(0, 6, "a")]),
        (OutOfTime, [], [(0, -1, "a")]),
        (Twice, [(1, 0, 1, 2), (1, 0, 1, 3)], []),
        (Twice, [], [(1, 1, "b"), (1, 1, "b")]),
        (TooLate, [(0, 1, 2, 5)], []),
    )
    ORDER = (NoPath, OutOfTime, Twice, TooLate)
    SMALL = (3, [(0, 1, 2), (1, 0, None)])

    def test_the_first_in_order(self):
        late = self.FAULTS[-1]
        for first, second in itertools.product(self.FAULTS, repeat=2):
            told = [(0, 1, left, left + 1) for left in (0, 1, 3)]
            if late not in (first, second):
                told.append((0, 1, 2, 4))
            runs = told + first[1] + (second[1] if second != first else [])
            signs = first[2] + (second[2] if second != first else [])
            kind = min(first[0], second[0], key=self.ORDER.index)
            self.refused(kind, self.SMALL, (5, runs, signs))
            self.refused(kind, self.SMALL, (5, runs[::-1], signs[::-1]))

    def test_all_four_at_once_and_one_taken_away_after_another(self):
        due = [(0, 1, left, left + 2) for left in range(1, 4)]
        double = [(1, 0, 0, 1), (1, 0, 0, 2)]
        self.refused(NoPath, self.SMALL, (5, due + double + [(1, 0, 5, 6), (2, 0, 0, 1)], []))
        self.refused(OutOfTime, self.SMALL, (5, due + double + [(1, 0, 5, 6)], []))
        self.refused(Twice, self.SMALL, (5, due + double, []))
        self.refused(TooLate, self.SMALL, (5, due, []))
        self.good(self.SMALL, (5, due + [(0, 1, 0, 1)], []))

    def test_last_among_other_faults(self):
        for last in (-1, 61, GREATEST, LEAST):
            self.refused(NoPath, self.SMALL, (last, [(0, 2, 0, 1)], []))
            self.refused(NoPath, self.SMALL, (last, [], [(3, 0, "a")]))
            self.refused(OutOfTime, self.SMALL, (last, [(0, 1, 0, 1), (0, 1, 0, 1)], []))
            self.refused(OutOfTime, self.SMALL, (last, [], [(0, 0, "a"), (0, 0, "a")]))
            self.refused(OutOfTime, self.SMALL, (last, [(0, 1, 0, 5)], []))

    def test_a_late_run_that_is_beyond_last_too(self):
        self.refused(OutOfTime, self.SMALL, (2, [(0, 1, 0, 3)], []))

    def test_twice_with_one_of_them_too_late(self):
        self.refused(Twice, self.SMALL, (3, [(0, 1, 0, 3), (0, 1, 0, 2), (0, 1, 1, 2)], []))

    def test_many_small_tales_by_the_words(self):
        net = (2, [(0, 1, 2), (1, 0, None)])
        ends = ((0, 1), (1, 0))
        single = [end + (left, come) for end in ends for left in range(-1, 3) for come in range(-1, 4)]
        single.append((1, 1, 0, 1))
        some = [[]] + [[run] for run in single] + [list(pair) for pair in itertools.product(single, repeat=2)]
        signs = ([], [(1, 2, "a")], [(0, 1, "a"), (0, 1, "a")], [(2, 0, "a")])
        met = {}
        for last, runs, told in itertools.product((-1, 0, 1, 2, 3), some, signs):
            kind = by_the_words(net, (last, runs, told))
            met[kind] = True
            self.refused(kind, net, (last, runs, told))
        self.assertEqual(5, len(met))


class HandedIn(Checked):
    def test_nothing_handed_in_is_changed(self):
        runs = [(1, 0, 2, 3), (0, 1, 1, 2), (0, 1, 0, 2)]
        signs = [(1, 3, "b"), (1, 0, "b"), (0, 2, "a")]
        for last in (-1, 2, 3, 4, 61):
            leaves_alone(self, check_tale, NET, (last, list(runs), list(signs)))
            leaves_alone(self, check_tale, NET, (last, runs + [(0, 1, 0, 1)], list(signs)))
            leaves_alone(self, check_tale, NET, (last, runs + [(2, 0, 0, 1)], list(signs)))
            leaves_alone(self, check_tale, NET, (last, list(runs), signs * 2))

    def test_a_tale_changed_by_the_asker_is_checked_anew(self):
        tale = (3, due_runs(NET, 3), [(0, 0, "a")])
        self.good(NET, tale)
        tale[2].append((0, 0, "a"))
        self.refused(Twice, NET, tale)
        tale[2].clear()
        self.good(NET, tale)
        tale[1].pop()
        self.refused(TooLate, NET, tale)


if __name__ == "__main__":
    unittest.main()

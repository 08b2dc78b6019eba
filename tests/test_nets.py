import itertools
import unittest

from hearsay.errors import NoNet
from hearsay.nets import check_net, fewest, sure_times, sure_way
from tests.helper import GREATEST, LEAST, by_trying, is_own, leaves_alone, refusal

# Two ways from 0 to 3 (7 against 1 + 2 + 3), a quick path without a most from 0 to 4, none back to 0, and 5 alone.
NET = (6, [(0, 3, 7), (2, 3, 3), (0, 1, 1), (1, 2, 2), (0, 4, None), (4, 3, 1), (3, 1, 1), (2, 1, 9), (1, 4, None)])


def all_paths(houses, most):
    return [(start, goal, most) for start in range(houses) for goal in range(houses) if start != goal]


def small_nets():
    """Each net of three houses whose paths are not there, without a most, or with a most of 1 or 3."""
    ends = [path[:2] for path in all_paths(3, None)]
    for mosts in itertools.product(("no", None, 1, 3), repeat=len(ends)):
        yield (3, [end + (most,) for end, most in zip(ends, mosts) if most != "no"])


def larger_nets():
    """Some nets of five to eight houses, with mosts that don't come in the order of the paths."""
    for houses in (5, 6, 7, 8):
        for turn in range(6):
            paths = []
            for place, path in enumerate(all_paths(houses, None)):
                chosen = (place * 7 + turn * 11 + place * place * 3) % 13
                if chosen < 5:
                    paths.append(path[:2] + (None if chosen == 0 else chosen * chosen,))
            yield (houses, paths if turn % 2 else paths[::-1])


class GoodNets(unittest.TestCase):
    def good(self, net):
        self.assertIsNone(refusal(check_net, net), net)

    def test_each_number_of_houses_without_paths(self):
        for houses in range(1, 9):
            self.good((houses, []))

    def test_mosts(self):
        for most in (None, 1, 2, GREATEST):
            self.good((2, [(0, 1, most)]))
            self.good((8, [(0, 7, most), (7, 0, most)]))

    def test_all_paths_of_eight_houses(self):
        self.good((8, all_paths(8, None)))
        self.good((8, all_paths(8, 1)))
        self.good((8, all_paths(8, GREATEST)))

    def test_there_and_back_are_two_paths(self):
        self.good((2, [(0, 1, 3), (1, 0, 3)]))


class NoNets(unittest.TestCase):
    def none(self, net):
        self.assertEqual(NoNet, refusal(check_net, net), net)

    def test_number_of_houses(self):
        for houses in (0, -1, -2, 9, 10, GREATEST, LEAST):
            self.none((houses, []))
        self.none((9, [(0, 1, 1)]))
        self.none((0, [(0, 1, 1)]))

    def test_start_or_goal_is_no_house(self):
        for houses in (2, 8):
            for wrong in (-1, -2, -houses, houses, houses + 1, GREATEST, LEAST):
                self.none((houses, [(wrong, 1, 1)]))
                self.none((houses, [(1, wrong, 1)]))
                self.none((houses, [(0, 1, 1), (1, wrong, None)]))
        self.none((1, [(0, 1, 1)]))

    def test_from_a_house_to_itself(self):
        self.none((1, [(0, 0, 1)]))
        self.none((8, [(7, 7, None)]))
        self.none((2, [(0, 1, 1), (1, 1, 1)]))

    def test_most_below_one(self):
        for most in (0, -1, LEAST):
            self.none((2, [(0, 1, most)]))
            self.none((2, [(1, 0, 1), (0, 1, most)]))

    def test_same_start_and_goal(self):
        for first in (None, 1, 2, GREATEST):
            for second in (None, 1, 2, GREATEST):
                self.none((2, [(0, 1, first), (0, 1, second)]))
                self.none((3, [(0, 1, first), (1, 0, 1), (2, 0, 1), (0, 1, second)]))

    def test_two_hundred_paths(self):
        self.none((8, (all_paths(8, 1) * 4)[:200]))


class SureTimes(unittest.TestCase):
    def test_least_sums_and_none(self):
        self.assertEqual([0, 1, 3, 6, None, None], sure_times(NET, 0))
        self.assertEqual([None, 1, 3, 0, None, None], sure_times(NET, 3))
        self.assertEqual([None, 2, 4, 1, 0, None], sure_times(NET, 4))
        self.assertEqual([None, None, None, None, None, 0], sure_times(NET, 5))

    def test_one_house(self):
        self.assertEqual([0], sure_times((1, []), 0))

    def test_paths_without_a_most_promise_nothing(self):
        self.assertEqual([0, None], sure_times((2, [(0, 1, None)]), 0))
        self.assertEqual([0, None, None], sure_times((3, [(0, 1, None), (1, 2, 1)]), 0))

    def test_paths_lead_one_way(self):
        self.assertEqual([0, 4], sure_times((2, [(0, 1, 4)]), 0))
        self.assertEqual([None, 0], sure_times((2, [(0, 1, 4)]), 1))

    def test_a_long_way_in_any_order_of_the_paths(self):
        row = [(house, house + 1, 1) for house in range(7)]
        for paths in (row, row[::-1], row[::2] + row[1::2]):
            net = (8, paths + [(0, 7, 8)])
            self.assertEqual(list(range(8)), sure_times(net, 0))
            self.assertEqual(list(range(8)), sure_way(net, 0, 7))

    def test_sixty_figures(self):
        net = (4, [(0, 1, GREATEST), (1, 2, GREATEST), (0, 2, GREATEST - 1), (2, 3, GREATEST)])
        self.assertEqual([0, GREATEST, GREATEST - 1, 2 * GREATEST - 1], sure_times(net, 0))
        by_one = (3, [(0, 2, GREATEST), (0, 1, GREATEST - 2), (1, 2, 1)])
        self.assertEqual([0, GREATEST - 2, GREATEST - 1], sure_times(by_one, 0))
        self.assertEqual([0, 1, 2], sure_way(by_one, 0, 2))

    def test_against_all_ways(self):
        for net in itertools.chain(small_nets(), larger_nets()):
            for house in range(net[0]) if net[0] == 3 else (0, net[0] - 1):
                tried = [by_trying(net, house, goal, lambda most: most) for goal in range(net[0])]
                self.assertEqual(tried, sure_times(net, house), (net, house))


class SureWay(unittest.TestCase):
    def walk(self, net, one, other):
        """Checks one way by walking it: each step a path with a most, and the mosts the sure time together."""
        mosts = {path[:2]: path[2] for path in net[1]}
        way = sure_way(net, one, other)
        time = sure_times(net, one)[other]
        if time is None:
            self.assertIsNone(way)
            return
        self.assertIsInstance(way, list)
        self.assertEqual((one, other), (way[0], way[-1]))
        steps = [mosts.get(step) for step in zip(way, way[1:])]
        self.assertNotIn(None, steps, (net, way))
        self.assertEqual(time, sum(steps), (net, way))

    def test_ways_told(self):
        self.assertEqual([0, 1, 2, 3], sure_way(NET, 0, 3))
        self.assertEqual([4, 3, 1, 2], sure_way(NET, 4, 2))
        self.assertEqual([0, 1], sure_way(NET, 0, 1))

    def test_none_where_there_is_no_sure_time(self):
        self.assertIsNone(sure_way(NET, 0, 4))
        self.assertIsNone(sure_way(NET, 3, 0))
        self.assertIsNone(sure_way(NET, 0, 5))

    def test_from_a_house_to_itself(self):
        for house in range(6):
            self.assertEqual([house], sure_way(NET, house, house))
        self.assertEqual([0], sure_way((1, []), 0, 0))

    def test_from_each_house_to_each(self):
        for net in itertools.chain([NET], small_nets(), larger_nets()):
            for one, other in itertools.product(range(net[0]), repeat=2):
                self.walk(net, one, other)


class Fewest(unittest.TestCase):
    def test_with_a_most_and_without(self):
        self.assertEqual([0, 1, 2, 1, 1, None], fewest(NET, 0))
        self.assertEqual([None, 1, 2, 0, 2, None], fewest(NET, 3))
        self.assertEqual([None, None, None, None, None, 0], fewest(NET, 5))
        self.assertEqual([0, 1, 2], fewest((3, [(0, 1, None), (1, 2, GREATEST)]), 0))

    def test_number_of_paths_not_their_mosts(self):
        net = (3, [(0, 1, 1), (1, 2, 1), (0, 2, 9)])
        self.assertEqual([0, 1, 1], fewest(net, 0))

    def test_one_house(self):
        self.assertEqual([0], fewest((1, []), 0))

    def test_against_all_ways(self):
        for net in itertools.chain(small_nets(), larger_nets()):
            for house in range(net[0]) if net[0] == 3 else (0, net[0] - 1):
                tried = [by_trying(net, house, goal, lambda most: 1) for goal in range(net[0])]
                self.assertEqual(tried, fewest(net, house), (net, house))


class HandedInAndTold(unittest.TestCase):
    def test_nothing_handed_in_is_changed(self):
        for net in (NET, (1, []), (9, [(0, 1, 1)]), (2, [(1, 0, 3), (0, 1, 2), (1, 0, None)]), (2, [(0, 0, 0)])):
            leaves_alone(self, check_net, net)
        for house in range(6):
            leaves_alone(self, sure_times, NET, house)
            leaves_alone(self, fewest, NET, house)
            for other in range(6):
                leaves_alone(self, sure_way, NET, house, other)

    def test_what_is_told_is_the_askers_own(self):
        for house in range(6):
            is_own(self, sure_times, NET, house)
            is_own(self, fewest, NET, house)
            is_own(self, sure_way, NET, house, house)
        is_own(self, sure_way, NET, 0, 3)

    def test_a_net_changed_by_the_asker_is_asked_anew(self):
        net = (2, [(0, 1, 5)])
        self.assertEqual([0, 5], sure_times(net, 0))
        net[1][0] = (0, 1, None)
        self.assertEqual([0, None], sure_times(net, 0))
        self.assertIsNone(sure_way(net, 0, 1))
        self.assertEqual([0, 1], fewest(net, 0))
        net[1].append((0, 1, 2))
        self.assertEqual(NoNet, refusal(check_net, net))


if __name__ == "__main__":
    unittest.main()

import itertools
import unittest

from hearsay.plans import fastest, soonest, surely
from hearsay.sentences import Came, Shared
from tests.helper import (FIRE_NET, GREATEST, LOOSE, all_tales, by_trying, dice, house_lists, is_good,
                          keeps_to_itself, some_houses, some_net)

# Nothing is promised from 0, but 1 and 2 are sure of both others.
NET = (4, [(0, 1, None), (1, 0, 2), (1, 2, 3), (2, 1, 1), (0, 2, None), (3, 0, 1)])


def some_nets(seed):
    throw = dice(seed)
    return [some_net(throw, 2 + throw(5), [1, 2, 3, 7, None, None]) for net in range(40)]


class Surely(unittest.TestCase):
    def test_the_greatest_sure_time(self):
        self.assertEqual(3, surely(FIRE_NET, 0, [1, 2]))
        self.assertEqual(3, surely(FIRE_NET, 0, [2, 1]))
        self.assertEqual(2, surely(FIRE_NET, 0, [1]))
        net = (4, [(0, 1, 2), (1, 2, 3), (0, 2, 9), (2, 3, 1)])
        self.assertEqual(5, surely(net, 0, [2, 1]))
        self.assertEqual(6, surely(net, 0, [1, 3, 2]))

    def test_the_house_itself_among_them(self):
        self.assertEqual(0, surely(FIRE_NET, 0, [0]))
        self.assertEqual(0, surely((1, []), 0, [0]))
        self.assertEqual(3, surely(FIRE_NET, 0, [2, 0, 1]))
        self.assertEqual(2, surely(FIRE_NET, 0, [0, 1]))

    def test_none_where_one_is_none(self):
        for houses in ([0], [2], [1, 0], [0, 1], [1, 2, 0], [2, 1]):
            self.assertIsNone(surely(FIRE_NET, 1, houses))
        self.assertEqual(0, surely(FIRE_NET, 1, [1]))
        self.assertIsNone(surely((8, []), 3, [3, 4]))
        self.assertIsNone(surely(LOOSE, 0, [1]))

    def test_mosts_of_sixty_figures(self):
        net = (8, [(house, house + 1, GREATEST) for house in range(7)])
        for house in range(8):
            self.assertEqual(house * GREATEST, surely(net, 0, list(range(house + 1))))
        self.assertEqual(GREATEST, surely(net, 6, [7, 6]))
        self.assertIsNone(surely(net, 7, [7, 6]))

    def test_against_all_ways(self):
        for net in some_nets(1):
            for house in range(net[0]):
                for houses in house_lists(net[0]):
                    times = [by_trying(net, house, other, lambda most: most) for other in houses]
                    expected = None if None in times else max(times)
                    self.assertEqual(expected, surely(net, house, list(houses)))

    def test_nothing_changed_and_nothing_kept(self):
        for net in some_nets(2)[:9]:
            keeps_to_itself(self, surely, net, 1, [1, 0])
            keeps_to_itself(self, surely, net, 0, [1])


class Fastest(unittest.TestCase):
    def test_by_hand(self):
        net = (3, [(2, 0, None), (0, 1, 2), (1, 0, GREATEST)])
        self.assertEqual((2, [(0, 1, 0, 1), (0, 1, 1, 2), (1, 0, 0, 1), (1, 0, 1, 2), (2, 0, 0, 1), (2, 0, 1, 2)], []),
                         fastest(net, 2, []))
        self.assertEqual((1, [(0, 1, 0, 1), (1, 0, 0, 1), (2, 0, 0, 1)], [(0, 1, "b"), (2, 0, "a")]),
                         fastest(net, 1, [(2, 0, "a"), (0, 1, "b")]))

    def test_last_0(self):
        self.assertEqual((0, [], []), fastest((1, []), 0, []))
        self.assertEqual((0, [], [(1, 0, "a")]), fastest(NET, 0, [(1, 0, "a")]))

    def test_last_60(self):
        for net in some_nets(3)[:6] + [NET, (1, []), (8, [])]:
            runs = sorted((start, goal, left, left + 1) for start, goal, most in net[1] for left in range(60))
            self.assertEqual((60, runs, []), fastest(net, 60, []))
            self.assertEqual(60 * len(net[1]), len(fastest(net, 60, [])[1]))

    def test_signs_in_ascending_order(self):
        signs = [(1, 0, "b"), (1, 0, "a"), (0, 2, "z"), (0, 2, "aa"), (0, 0, "c")]
        for order in itertools.permutations(signs):
            self.assertEqual((3, [], sorted(signs)), fastest((2, []), 3, list(order)))

    def test_good_at_every_last_turn(self):
        for net in some_nets(4)[:12]:
            for last in (0, 1, 2, 7, 60):
                told = fastest(net, last, [(0, last, "a")])
                self.assertTrue(is_good(net, told))
                self.assertEqual((last, sorted(told[1]), [(0, last, "a")]), told)
                self.assertEqual(last * len(net[1]), len(told[1]))
                self.assertTrue(all(run[3] == run[2] + 1 for run in told[1]))

    def test_nothing_changed_and_nothing_kept(self):
        for net in some_nets(5)[:6] + [(1, [])]:
            keeps_to_itself(self, fastest, net, 3, [(1 % net[0], 0, "a"), (0, 0, "b")])
            keeps_to_itself(self, fastest, net, 0, [])

    def test_changing_the_signs_later_changes_nothing(self):
        signs = [(0, 0, "a")]
        told = fastest((1, []), 2, signs)
        signs.append((0, 1, "b"))
        self.assertEqual((2, [], [(0, 0, "a")]), told)
        told[2].clear()
        self.assertEqual([(0, 0, "a"), (0, 1, "b")], signs)


class Soonest(unittest.TestCase):
    def first_shared(self, net, tale, houses):
        for turn in range(tale[0] + 1):
            if Shared(list(houses), turn, Came("a")).holds(net, tale):
                return turn
        return None

    def test_by_hand(self):
        # House 1 may hear at turn 1, and is surely heard by house 2 three turns later.
        self.assertEqual(4, soonest(NET, 0, [0, 1, 2], 60))
        self.assertEqual(2, soonest(NET, 0, [1, 2], 60))
        self.assertEqual(0, soonest(NET, 0, [0], 60))
        self.assertEqual(1, soonest(NET, 0, [2], 60))
        self.assertEqual(1, soonest(NET, 3, [3, 0], 60))
        self.assertEqual(0, soonest((1, []), 0, [0], 0))

    def test_none(self):
        self.assertIsNone(soonest(NET, 0, [3], 60))
        self.assertIsNone(soonest(NET, 3, [3, 1], 60))
        self.assertIsNone(soonest(LOOSE, 0, [0, 1], 60))
        self.assertIsNone(soonest((2, []), 0, [1], 60))
        self.assertIsNone(soonest((2, [(0, 1, GREATEST)]), 0, [0, 1], 60))

    def test_last_just_at_it_and_just_ahead_of_it(self):
        for last in range(61):
            self.assertEqual(4 if last >= 4 else None, soonest(NET, 0, [0, 1, 2], last))
            self.assertEqual(2 if last >= 2 else None, soonest(NET, 0, [2, 1], last))
            self.assertEqual(0, soonest(NET, 0, [0], last))
        slow = (2, [(0, 1, 60)])
        self.assertEqual(60, soonest(slow, 0, [0, 1], 60))
        self.assertIsNone(soonest(slow, 0, [0, 1], 59))
        self.assertIsNone(soonest((2, [(0, 1, 61)]), 0, [0, 1], 60))
        self.assertEqual(1, soonest(slow, 0, [1], 1))
        self.assertIsNone(soonest(slow, 0, [1], 0))

    def test_in_the_fastest_tale_just_then_for_the_first_time(self):
        met = set()
        for seed, net in enumerate(some_nets(6) + [NET]):
            throw = dice(seed)
            for lap in range(6):
                house = throw(net[0])
                houses = some_houses(throw, net[0])
                for last in (0, 2, 5, 11):
                    told = soonest(net, house, list(houses), last)
                    self.assertEqual(self.first_shared(net, fastest(net, last, [(house, 0, "a")]), houses), told)
                    met.add(told)
        self.assertLessEqual({None, 0, 1, 2, 3, 4, 5, 6}, met)

    def test_the_least_over_all_tales(self):
        for net, last in ((LOOSE, 3), ((2, [(0, 1, 2), (1, 0, 1)]), 4), ((2, [(0, 1, None), (1, 0, 2)]), 3),
                          ((3, [(0, 1, None), (1, 2, 1), (1, 0, 2)]), 3)):
            for house in range(net[0]):
                tales = list(all_tales(net, last, []))
                for houses in house_lists(net[0]):
                    turns = [self.first_shared(net, (last, runs, [(house, 0, "a")]), houses)
                             for last, runs, signs in tales]
                    expected = min((turn for turn in turns if turn is not None), default=None)
                    self.assertEqual(expected, soonest(net, house, list(houses), last))

    def test_nothing_changed_and_nothing_kept(self):
        for net in some_nets(7)[:9] + [NET]:
            keeps_to_itself(self, soonest, net, 0, [1, 0], 20)
            keeps_to_itself(self, soonest, net, 1, [0], 2)


if __name__ == "__main__":
    unittest.main()

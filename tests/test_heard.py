import itertools
import unittest

from hearsay.heard import heard_by, trail
from hearsay.nets import sure_times
from tests.helper import (GREATEST, LOOSE, WORLDS, World, all_spots, due_runs, hearing, is_good, keeps_to_itself,
                          larger_tales)

TALES = list(larger_tales(0, [None, 1, 2, 5, 40, GREATEST], 5))
# A row of four houses without mosts, and a path back to its begin.
ROW = (4, [(0, 1, None), (1, 2, None), (2, 3, None), (3, 0, None)])


def turns_of(net, heard):
    """The last turn of each house among spots, -1 where there is none."""
    return [max([turn for place, turn in heard if place == house], default=-1) for house in range(net[0])]


class HeardBy(unittest.TestCase):
    def test_a_spot_hears_itself_and_earlier_turns_of_its_house(self):
        for last in (0, 1, 60):
            for house, turn in all_spots(LOOSE, last):
                expected = [-1, -1]
                expected[house] = turn
                self.assertEqual(expected, heard_by(LOOSE, (last, [], []), (house, turn)))

    def test_no_paths_and_one_house(self):
        self.assertEqual([0], heard_by((1, []), (0, [], []), (0, 0)))
        self.assertEqual([60], heard_by((1, []), (60, [], []), (0, 60)))
        self.assertEqual([-1] * 7 + [3], heard_by((8, []), (60, [], []), (7, 3)))

    def test_a_runner_that_came_at_the_turn_and_one_that_came_a_turn_later(self):
        tale = (9, [(0, 1, 2, 5), (0, 1, 3, 6), (0, 1, 1, 9)], [])
        self.assertEqual([-1, 4], heard_by(LOOSE, tale, (1, 4)))
        self.assertEqual([2, 5], heard_by(LOOSE, tale, (1, 5)))
        self.assertEqual([3, 6], heard_by(LOOSE, tale, (1, 6)))
        self.assertEqual([3, 9], heard_by(LOOSE, tale, (1, 9)))
        self.assertEqual([9, -1], heard_by(LOOSE, tale, (0, 9)))

    def test_the_latest_that_is_brought_not_the_latest_runner(self):
        tale = (9, [(0, 1, 5, 6), (0, 1, 0, 9)], [])
        self.assertEqual([5, 9], heard_by(LOOSE, tale, (1, 9)))
        self.assertEqual([5, 6], heard_by(LOOSE, tale, (1, 6)))

    def test_several_runs_where_one_leaves_at_the_turn_at_which_another_came(self):
        just = [(0, 1, 0, 2), (1, 2, 2, 3), (2, 3, 3, 7)]
        for runs in itertools.permutations(just):
            self.assertEqual([0, 2, 3, 7], heard_by(ROW, (9, list(runs), []), (3, 7)))
            self.assertEqual([-1, -1, -1, 6], heard_by(ROW, (9, list(runs), []), (3, 6)))
        self.assertEqual([-1, 1, 3, 8], heard_by(ROW, (9, [(0, 1, 0, 2), (1, 2, 1, 3), (2, 3, 3, 7)], []), (3, 8)))
        self.assertEqual([-1, -1, 2, 8], heard_by(ROW, (9, [(0, 1, 0, 2), (1, 2, 2, 3), (2, 3, 2, 7)], []), (3, 8)))

    def test_round_a_ring_to_its_own_house(self):
        tale = (4, [(0, 1, 0, 1), (1, 2, 1, 2), (2, 3, 2, 3), (3, 0, 3, 4)], [])
        self.assertEqual([4, 1, 2, 3], heard_by(ROW, tale, (0, 4)))
        self.assertEqual([3, -1, -1, -1], heard_by(ROW, tale, (0, 3)))

    def test_last_of_sixty(self):
        tale = (60, [(0, 1, 59, 60), (1, 0, 0, 60)], [])
        self.assertEqual([59, 60], heard_by(LOOSE, tale, (1, 60)))
        self.assertEqual([60, 0], heard_by(LOOSE, tale, (0, 60)))
        self.assertEqual([-1, 59], heard_by(LOOSE, tale, (1, 59)))

    def test_signs_are_not_heard_by_themselves(self):
        self.assertEqual([-1, 2], heard_by(LOOSE, (2, [], [(0, 0, "a"), (1, 2, "b")]), (1, 2)))

    def test_all_small_tales_by_the_words(self):
        for made in WORLDS:
            world = World(*made)
            for place in range(0, len(world.tales), 3):
                for spot in all_spots(world.net, world.last):
                    expected = turns_of(world.net, world.heard[place][spot])
                    self.assertEqual(expected, heard_by(world.net, world.tales[place], spot))

    def test_larger_tales_by_the_words(self):
        for net, tale in TALES:
            self.assertTrue(is_good(net, tale))
            heard = hearing(net, tale)
            for spot in all_spots(net, tale[0]):
                turns = heard_by(net, tale, spot)
                self.assertEqual(turns_of(net, heard[spot]), turns)
                whole = {(house, turn) for house in range(net[0]) for turn in range(turns[house] + 1)}
                self.assertEqual(heard[spot], whole)


class SureHearing(unittest.TestCase):
    def surely(self, net, tale):
        """How many pairs were met; of each the second house hears the first behind the sure time."""
        met = 0
        for house, turn in all_spots(net, tale[0]):
            for other, time in enumerate(sure_times(net, house)):
                if time is not None and turn + time <= tale[0]:
                    met += 1
                    self.assertLessEqual(turn, heard_by(net, tale, (other, turn + time))[house])
        return met

    def test_in_all_small_tales(self):
        for made in WORLDS:
            world = World(*made)
            for tale in world.tales[::5]:
                self.surely(world.net, tale)

    def test_in_larger_tales(self):
        self.assertLess(1000, sum(self.surely(net, tale) for net, tale in TALES))

    def test_just_then_where_all_come_as_late_as_they_may(self):
        net = (4, [(0, 1, 3), (1, 2, 4), (0, 2, 9), (2, 3, 20), (3, 0, GREATEST)])
        tale = (60, due_runs(net, 60), [])
        self.surely(net, tale)
        for house in range(4):
            for other, time in enumerate(sure_times(net, house)):
                if time is not None and 0 < time <= 60:
                    self.assertEqual(0, heard_by(net, tale, (other, time))[house])
                    self.assertEqual(-1, heard_by(net, tale, (other, time - 1))[house])


class Trails(unittest.TestCase):
    def walk(self, net, tale, one, other, hears):
        told = trail(net, tale, one, other)
        if not hears:
            self.assertIsNone(told, (tale, one, other))
            return
        self.assertIsInstance(told, list)
        place, turn = one
        for start, goal, left, come in told:
            self.assertIn((start, goal, left, come), tale[1])
            self.assertEqual(place, start)
            self.assertLessEqual(turn, left)
            place, turn = goal, come
        self.assertEqual(other[0], place)
        self.assertLessEqual(turn, other[1])

    def walk_all(self, net, tale, heard):
        for one, other in itertools.product(all_spots(net, tale[0]), repeat=2):
            self.walk(net, tale, one, other, one in heard[other])

    def test_each_spot_to_each_other_of_small_tales(self):
        for made in WORLDS:
            world = World(*made)
            for place in range(0, len(world.tales), 17):
                self.walk_all(world.net, world.tales[place], world.heard[place])

    def test_each_spot_to_each_other_of_larger_tales(self):
        for net, tale in TALES[:4]:
            self.walk_all(net, tale, hearing(net, tale))

    def test_some_spots_of_the_largest_tales(self):
        for net, tale in TALES[4:]:
            heard = hearing(net, tale)
            spots = all_spots(net, tale[0])
            for one, other in itertools.product(spots[::7], spots[::5]):
                self.walk(net, tale, one, other, one in heard[other])

    def test_the_empty_list(self):
        for last in (0, 1, 60):
            tale = (last, [], [])
            for one, other in itertools.product(all_spots(LOOSE, min(last, 4)), repeat=2):
                empty = one[0] == other[0] and one[1] <= other[1]
                self.assertEqual([] if empty else None, trail(LOOSE, tale, one, other))
        self.assertEqual([], trail(LOOSE, (60, [], []), (1, 0), (1, 60)))
        self.assertIsNone(trail(LOOSE, (60, [], []), (1, 60), (1, 59)))

    def test_not_empty_between_two_houses(self):
        tale = (4, [(0, 1, 1, 2), (1, 0, 2, 4)], [])
        self.assertEqual([(0, 1, 1, 2)], trail(LOOSE, tale, (0, 0), (1, 4)))
        self.assertEqual([(0, 1, 1, 2)], trail(LOOSE, tale, (0, 1), (1, 2)))
        self.assertEqual([(1, 0, 2, 4)], trail(LOOSE, tale, (1, 2), (0, 4)))
        self.assertIsNone(trail(LOOSE, tale, (0, 2), (1, 4)))
        self.assertIsNone(trail(LOOSE, tale, (0, 1), (1, 1)))
        self.assertIsNone(trail(LOOSE, tale, (1, 3), (0, 4)))

    def test_one_behind_the_other_at_the_very_turn(self):
        runs = [(2, 3, 3, 7), (0, 1, 0, 2), (1, 2, 2, 3)]
        self.assertEqual([runs[1], runs[2], runs[0]], trail(ROW, (9, runs, []), (0, 0), (3, 7)))
        self.assertIsNone(trail(ROW, (9, runs, []), (0, 0), (3, 6)))
        self.assertIsNone(trail(ROW, (9, runs, []), (0, 1), (3, 9)))

    def test_a_long_trail(self):
        runs = [(turn % 2, 1 - turn % 2, turn, turn + 1) for turn in range(60)]
        self.assertEqual(runs[-1:], trail(LOOSE, (60, runs, []), (1, 59), (0, 60)))
        ring = [(turn % 4, (turn + 1) % 4, turn, turn + 1) for turn in range(3)]
        self.assertEqual(ring, trail(ROW, (60, ring[::-1], []), (0, 0), (3, 60)))


class HandedInAndTold(unittest.TestCase):
    def test_heard_by(self):
        for net, tale in TALES:
            for spot in all_spots(net, tale[0])[::20]:
                keeps_to_itself(self, heard_by, net, tale, spot)

    def test_trail(self):
        for net, tale in TALES:
            spots = all_spots(net, tale[0])
            for one, other in zip(spots[::6], reversed(spots)):
                keeps_to_itself(self, trail, net, tale, one, other)
            keeps_to_itself(self, trail, net, tale, spots[0], spots[0])

    def test_the_order_of_runs_and_paths_changes_nothing(self):
        for net, tale in TALES:
            turned = ((net[0], net[1][::-1]), (tale[0], tale[1][::-1], tale[2][::-1]))
            for spot in all_spots(net, tale[0])[::7]:
                self.assertEqual(heard_by(net, tale, spot), heard_by(*turned, spot))

    def test_a_tale_changed_by_the_asker_is_asked_anew(self):
        tale = (3, [], [])
        self.assertEqual([-1, 3], heard_by(LOOSE, tale, (1, 3)))
        tale[1].append((0, 1, 1, 2))
        self.assertEqual([1, 3], heard_by(LOOSE, tale, (1, 3)))
        self.assertEqual([(0, 1, 1, 2)], trail(LOOSE, tale, (0, 0), (1, 3)))
        tale[1].clear()
        self.assertIsNone(trail(LOOSE, tale, (0, 0), (1, 3)))


if __name__ == "__main__":
    unittest.main()

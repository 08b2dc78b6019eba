import itertools
import unittest

from hearsay.acts import acts, first_act, in_row
from hearsay.looks import alike, seen, slowest
from hearsay.sentences import Came, Shared
from tests.helper import (ALONE_WORLD, FIRE, FIRE_NET, GREATEST, LOOSE, LOOSE_WORLD, SURE_WORLD, WIDE_WORLD, WORLDS,
                          World, dice, due_runs, house_lists, keeps_to_itself, larger_tales, nested,
                          row_of, some_houses, some_places)

TALES = list(larger_tales(210, [1, 2, 2, 3, 5, None, GREATEST], 12))
FAST = (60, [(start, goal, left, left + 1) for start, goal in ((0, 1), (1, 0)) for left in range(60)], [(0, 0, "a")])


class Acts(unittest.TestCase):
    def check(self, expected, net, view, name, houses):
        self.assertIs(expected, acts(net, view, name, list(houses)), (net, view, name, houses))

    def test_by_hand(self):
        for turn in range(7):
            for house in (1, 2):
                self.check(turn >= 4, FIRE_NET, seen(FIRE_NET, FIRE, (house, turn)), "fire", [1, 2])
                self.check(turn >= 4, FIRE_NET, seen(FIRE_NET, FIRE, (house, turn)), "fire", [2, 1])
            for house in (0, 1):
                self.check(turn >= 3, FIRE_NET, seen(FIRE_NET, FIRE, (house, turn)), "fire", [0, 1])
            self.check(turn >= 1, FIRE_NET, seen(FIRE_NET, FIRE, (0, turn)), "fire", [0])

    def test_not_without_a_sign_of_the_name(self):
        for house, turn in itertools.product(range(3), range(7)):
            for name in ("flood", "fir", "fires"):
                self.check(False, FIRE_NET, seen(FIRE_NET, FIRE, (house, turn)), name, [house])
                self.check(False, FIRE_NET, seen(FIRE_NET, FIRE, (house, turn)), name, [0, 1, 2])

    def test_not_by_what_others_alone_have_seen(self):
        for turn in range(61):
            self.check(False, LOOSE, seen(LOOSE, FAST, (0, turn)), "a", [0, 1])
            self.check(False, LOOSE, seen(LOOSE, FAST, (1, turn)), "a", [0, 1])
            self.check(True, LOOSE, seen(LOOSE, FAST, (0, turn)), "a", [0])
            self.check(turn > 0, LOOSE, seen(LOOSE, FAST, (1, turn)), "a", [1])

    def test_the_turn_0_and_one_house(self):
        self.check(True, (1, []), ((0, 0), [], [(0, 0, "a")]), "a", [0])
        self.check(False, (1, []), ((0, 0), [], [(0, 0, "a")]), "b", [0])
        self.check(False, (1, []), ((0, 0), [], []), "a", [0])

    def test_in_worlds_just_where_it_is_shared_and_all_the_same(self):
        for made in WORLDS:
            world = World(*made)
            met = {True: 0, False: 0}
            for houses in house_lists(world.net[0]):
                for turn, name in itertools.product(range(world.last + 1), "ab"):
                    where = world.where(("shared", houses, turn, ("came", name)))
                    for place in some_places(world, turn):
                        met[place in where] += 1
                        for house in houses:
                            self.check(place in where, world.net, world.view(place, (house, turn)), name, houses)
            self.assertLess(10, min(met.values()))

    def test_in_worlds_the_same_in_each_that_looks_the_same_with_another_last_turn(self):
        for net, last, signs in (LOOSE_WORLD, SURE_WORLD, WIDE_WORLD, ALONE_WORLD):
            longer = World(net, last, signs)
            shorter = World(net, last - 1, [sign for sign in signs if sign[1] < last])
            for houses in house_lists(net[0]):
                for turn in range(last):
                    self.hold_against(longer, shorter, houses, turn)

    def hold_against(self, one, other, houses, turn):
        """To tales of either world that look the same it's shared in both or in none, and acted so."""
        spec = ("shared", houses, turn, ("came", "a"))
        first, second = one.where(spec), other.where(spec)
        for house in houses:
            met = {repr(other.view(group[0], (house, turn))): group for group in other.groups[(house, turn)]}
            for group in one.groups[(house, turn)][::5]:
                view = one.view(group[0], (house, turn))
                told = acts(one.net, view, "a", list(houses))
                self.assertEqual({told}, {place in first for place in group})
                self.assertEqual({told}, {place in second for place in met[repr(view)]})

    def test_larger_tales(self):
        met = {True: 0, False: 0}
        for seed, (net, tale) in enumerate(TALES):
            throw = dice(seed + 81)
            for lap in range(30):
                houses = some_houses(throw, net[0])
                turn = throw(tale[0] + 1)
                name = "abc"[throw(3)]
                expected = Shared(list(houses), turn, Came(name)).holds(net, tale)
                met[expected] += 1
                for house in houses:
                    view = seen(net, tale, (house, turn))
                    self.check(expected, net, view, name, houses)
                    for last in (turn, min(turn + 3, 60), 60):
                        other = slowest(net, view, last)
                        self.assertTrue(alike(net, tale, other, (house, turn)))
                        self.assertIs(expected, Shared(list(houses), turn, Came(name)).holds(net, other))
                        self.check(expected, net, seen(net, other, (house, turn)), name, houses)
        self.assertLess(20, min(met.values()))

    def test_nothing_changed_and_nothing_kept(self):
        for turn in range(7):
            keeps_to_itself(self, acts, FIRE_NET, seen(FIRE_NET, FIRE, (1, turn)), "fire", [2, 1])
        for net, tale in TALES:
            keeps_to_itself(self, acts, net, seen(net, tale, (0, tale[0])), "a", [0, 2])


class FirstAct(unittest.TestCase):
    def check(self, net, tale, name, houses):
        """The first turn, held against what each of the houses does by its own view at each turn."""
        told = first_act(net, tale, name, list(houses))
        for turn in range(tale[0] + 1):
            expected = told is not None and turn >= told
            for house in houses:
                self.assertIs(expected, acts(net, seen(net, tale, (house, turn)), name, list(houses)))
        return told

    def test_by_hand(self):
        for houses, turn in (([1, 2], 4), ([2, 1], 4), ([0, 1], 3), ([2, 0, 1], 4), ([0], 1), ([1], 3), ([2], 4)):
            self.assertEqual(turn, self.check(FIRE_NET, FIRE, "fire", houses))
            self.assertIsNone(self.check(FIRE_NET, FIRE, "flood", houses))

    def test_just_at_last_and_just_behind_it(self):
        for last in range(1, 9):
            tale = (last, due_runs(FIRE_NET, last), [(0, 1, "fire")])
            self.assertEqual(4 if last >= 4 else None, self.check(FIRE_NET, tale, "fire", [1, 2]))
            self.assertEqual(3 if last >= 3 else None, self.check(FIRE_NET, tale, "fire", [1, 0]))

    def test_the_first_of_several_signs(self):
        tale = (6, FIRE[1], [(0, 3, "fire"), (0, 0, "flood"), (1, 0, "fire"), (0, 2, "fire")])
        self.assertEqual(5, self.check(FIRE_NET, tale, "fire", [1, 2]))
        self.assertEqual(0, self.check(FIRE_NET, tale, "fire", [1]))
        self.assertEqual(3, self.check(FIRE_NET, tale, "flood", [1, 2]))

    def test_none(self):
        self.assertIsNone(self.check(LOOSE, FAST, "a", [0, 1]))
        self.assertIsNone(self.check((2, []), (5, [], [(0, 0, "a")]), "a", [1]))
        self.assertIsNone(first_act((1, []), (0, [], []), "a", [0]))
        huge = (2, [(0, 1, GREATEST)])
        self.assertIsNone(first_act(huge, (60, [], [(0, 0, "a")]), "a", [0, 1]))
        self.assertEqual(0, first_act((1, []), (0, [], [(0, 0, "a")]), "a", [0]))

    def test_in_worlds(self):
        for made in WORLDS:
            world = World(*made)
            for houses in house_lists(world.net[0]):
                for name in "ab":
                    shared = [world.where(("shared", houses, turn, ("came", name)))
                              for turn in range(world.last + 1)]
                    for place in some_places(world, len(houses)):
                        turns = [turn for turn in range(world.last + 1) if place in shared[turn]]
                        expected = turns[0] if turns else None
                        self.assertEqual(expected, first_act(world.net, world.tales[place], name, list(houses)))

    def test_larger_tales(self):
        told = []
        for seed, (net, tale) in enumerate(TALES):
            throw = dice(seed + 5)
            for lap in range(8):
                told.append(self.check(net, tale, "abc"[throw(3)], some_houses(throw, net[0])))
        self.assertIn(None, told)
        self.assertLess(5, len(set(told)))

    def test_nothing_changed_and_nothing_kept(self):
        for net, tale in TALES + [(FIRE_NET, FIRE)]:
            for houses in ([0], [1, 0], [2, 1, 0]):
                keeps_to_itself(self, first_act, net, tale, "a", houses)


class InRow(unittest.TestCase):
    def check(self, expected, net, tale, name, houses):
        told = in_row(net, tale, name, list(houses))
        self.assertIsInstance(told, list)
        self.assertEqual(expected, told, (net, tale, name, houses))
        turns = [turn for turn in told if turn is not None]
        self.assertEqual(sorted(turns) + [None] * (len(told) - len(turns)), told)

    def test_by_hand(self):
        self.check([1, 3, 4], FIRE_NET, FIRE, "fire", [0, 1, 2])
        self.check([3, 4], FIRE_NET, FIRE, "fire", [1, 2])
        self.check([4, 4], FIRE_NET, FIRE, "fire", [2, 1])
        self.check([4, 4, 4], FIRE_NET, FIRE, "fire", [2, 1, 0])
        self.check([3, 3], FIRE_NET, FIRE, "fire", [1, 0])
        for house, turn in ((0, 1), (1, 3), (2, 4)):
            self.check([turn], FIRE_NET, FIRE, "fire", [house])

    def test_by_runners_who_came(self):
        net = (3, [(0, 1, None), (1, 2, None)])
        runs = [(0, 1, 0, 2), (1, 2, 1, 3), (1, 2, 3, 5)]
        self.check([1, None, None], net, (6, runs, [(0, 1, "a")]), "a", [0, 1, 2])
        self.check([0, 2, 5], net, (6, runs, [(0, 0, "a")]), "a", [0, 1, 2])
        self.check([0, 5], net, (6, runs, [(0, 0, "a")]), "a", [0, 2])
        self.check([2, 5], net, (6, runs, [(0, 0, "a")]), "a", [1, 2])
        self.check([2, None, None], net, (6, runs, [(0, 0, "a")]), "a", [1, 0, 2])
        self.check([2, None], net, (4, runs[:2], [(0, 0, "a")]), "a", [1, 2])

    def test_one_sign_for_one_and_another_for_another(self):
        # Either house has a sign of its own, but none of them knows that of the other.
        self.check([0, None], (2, []), (4, [], [(0, 0, "a"), (1, 1, "a")]), "a", [0, 1])
        self.check([1, None], (2, []), (4, [], [(0, 0, "a"), (1, 1, "a")]), "a", [1, 0])

    def test_several_signs_of_the_name(self):
        tale = (6, FIRE[1], [(1, 0, "fire"), (2, 1, "fire"), (0, 2, "fire")])
        self.check([2, 4, 5], FIRE_NET, tale, "fire", [0, 1, 2])
        self.check([0, 5], FIRE_NET, tale, "fire", [1, 2])
        self.check([0, 4], FIRE_NET, tale, "fire", [1, 0])
        self.check([1, 5], FIRE_NET, tale, "fire", [2, 0])

    def test_none_acts(self):
        for houses in ([0], [0, 1], [2, 1, 0]):
            self.check([None] * len(houses), FIRE_NET, FIRE, "flood", houses)
            self.check([None] * len(houses), FIRE_NET, (0, [], []), "fire", houses)
        self.check([None] * 8, (8, []), (60, [], []), "a", range(8))

    def test_just_at_last_and_just_behind_it(self):
        for last in range(1, 8):
            tale = (last, due_runs(FIRE_NET, last), [(0, 1, "fire")])
            self.check([turn if turn <= last else None for turn in (1, 3, 4)], FIRE_NET, tale, "fire", [0, 1, 2])
        self.check([0], (1, []), (0, [], [(0, 0, "a")]), "a", [0])
        self.check([60], (1, []), (60, [], [(0, 60, "a")]), "a", [0])

    def test_eight_houses(self):
        ring = (8, [(house, (house + 1) % 8, None) for house in range(8)])
        runs = [(house, (house + 1) % 8, left, left + 1) for house in range(8) for left in range(60)]
        self.check(list(range(8)), ring, (60, runs, [(0, 0, "a")]), "a", range(8))
        self.check([7, 14, 21, 28, 35, 42, 49, 56], ring, (60, runs, [(0, 0, "a")]), "a", range(7, -1, -1))
        self.check([7, 14, 21, 28, 35, 42, 49, None], ring, (55, [run for run in runs if run[3] <= 55],
                                                           [(0, 0, "a")]), "a", range(7, -1, -1))

    def test_in_worlds(self):
        for made in WORLDS:
            world = World(*made)
            told = set()
            for many in range(1, world.net[0] + 1):
                for houses in itertools.permutations(range(world.net[0]), many):
                    told |= self.hold_against(world, houses, "ab"[many % 2])
            self.assertLess(3, len(told))

    def hold_against(self, world, houses, name):
        wheres = [[world.where(nested([(house, turn) for house in houses[many::-1]], ("came", name)))
                   for turn in range(world.last + 1)] for many in range(len(houses))]
        told = set()
        for place in some_places(world, len(houses)):
            expected = []
            for known in wheres:
                turns = [turn for turn in range(world.last + 1) if place in known[turn]]
                expected.append(turns[0] if turns else None)
            self.check(expected, world.net, world.tales[place], name, houses)
            told.add(tuple(expected))
        return told

    def test_larger_tales_by_the_sentences(self):
        for seed, (net, tale) in enumerate(TALES):
            throw = dice(seed + 70)
            for lap in range(10 if tale[0] < 30 else 1):
                houses = list(some_houses(throw, net[0]))
                name = "abc"[throw(3)]
                self.check(row_of(net, tale, name, houses), net, tale, name, houses)

    def test_nothing_changed_and_nothing_kept(self):
        for net, tale in TALES + [(FIRE_NET, FIRE)]:
            for houses in ([0], [1, 0], [2, 1, 0]):
                keeps_to_itself(self, in_row, net, tale, "a", houses)
                keeps_to_itself(self, in_row, net, tale, "fire", houses)


if __name__ == "__main__":
    unittest.main()

import itertools
import unittest

from hearsay.looks import alike, seen, slowest
from tests.helper import (GREATEST, LOOSE, LOOSE_WORLD, SURE_WORLD, WIDE_WORLD, WORLDS, World, all_spots, due_runs,
                          hearing, is_good, keeps_to_itself, larger_tales, seen_of, slowest_of)

TALES = list(larger_tales(50, [None, 1, 2, 5, 40, GREATEST], 12))
# House 1 hears house 0 behind two turns at the latest; of house 2 it may never hear.
NET = (3, [(0, 1, 2), (2, 1, None), (1, 2, 5), (2, 0, GREATEST)])
RUNS = [(2, 1, 1, 4), (0, 1, 3, 4), (0, 1, 0, 1), (1, 2, 0, 3), (0, 1, 2, 3), (0, 1, 1, 3), (2, 0, 0, 2)]
SIGNS = [(2, 1, "b"), (0, 3, "fire"), (1, 4, "c"), (2, 1, "a"), (0, 2, "z"), (2, 2, "a"), (0, 2, "fire")]
TALE = (5, RUNS, SIGNS)


class Seen(unittest.TestCase):
    def test_by_hand(self):
        runs = [(0, 1, 0, 1), (0, 1, 1, 3), (0, 1, 2, 3), (0, 1, 3, 4), (2, 0, 0, 2), (2, 1, 1, 4)]
        signs = [(0, 2, "fire"), (0, 2, "z"), (0, 3, "fire"), (1, 4, "c"), (2, 1, "a"), (2, 1, "b")]
        self.assertEqual(((1, 4), runs, signs), seen(NET, TALE, (1, 4)))
        self.assertEqual(((1, 5), runs, signs), seen(NET, TALE, (1, 5)))

    def test_a_turn_earlier(self):
        runs = [(0, 1, 0, 1), (0, 1, 1, 3), (0, 1, 2, 3), (2, 0, 0, 2)]
        self.assertEqual(((1, 3), runs, [(0, 2, "fire"), (0, 2, "z")]), seen(NET, TALE, (1, 3)))
        self.assertEqual(((1, 2), runs[:1], []), seen(NET, TALE, (1, 2)))
        self.assertEqual(((1, 0), [], []), seen(NET, TALE, (1, 0)))

    def test_the_spot_itself(self):
        for spot in all_spots(NET, 5):
            self.assertEqual(spot, seen(NET, TALE, spot)[0])
        self.assertEqual(((0, 0), [], [(0, 0, "a")]), seen((1, []), (0, [], [(0, 0, "a")]), (0, 0)))
        self.assertEqual(((7, 60), [], []), seen((8, []), (60, [], [(0, 0, "a")]), (7, 60)))

    def test_names_at_one_spot_in_order(self):
        names = ["b", "aa", "a", "ab", "zzzzzzzzzzzz", "z"]
        for ordered in itertools.permutations(names):
            told = seen((1, []), (0, [], [(0, 0, name) for name in ordered]), (0, 0))
            self.assertEqual([(0, 0, name) for name in sorted(names)], told[2])

    def test_the_order_of_the_tale_changes_nothing(self):
        told = seen(NET, TALE, (1, 5))
        for place in range(len(RUNS)):
            turned = (5, RUNS[place:] + RUNS[:place], SIGNS[:place][::-1] + SIGNS[place:])
            self.assertEqual(told, seen(NET, turned, (1, 5)))
        for order in itertools.permutations(RUNS):
            self.assertEqual(told, seen(NET, (5, list(order), SIGNS), (1, 5)))

    def test_signs_and_runs_beyond_what_is_heard(self):
        tale = (4, [(0, 1, 1, 2), (1, 0, 1, 2), (1, 0, 2, 4)], [(0, 1, "a"), (0, 2, "b"), (1, 2, "c"), (1, 3, "d")])
        self.assertEqual(((1, 2), [(0, 1, 1, 2)], [(0, 1, "a"), (1, 2, "c")]), seen(LOOSE, tale, (1, 2)))
        self.assertEqual(((0, 4), tale[1], tale[2][:3]), seen(LOOSE, tale, (0, 4)))

    def test_all_small_tales_by_the_words(self):
        for made in WORLDS:
            world = World(*made)
            for place in range(0, len(world.tales), 3):
                for spot in all_spots(world.net, world.last):
                    self.assertEqual(world.view(place, spot), seen(world.net, world.tales[place], spot))

    def test_larger_tales_by_the_words(self):
        for net, tale in TALES:
            heard = hearing(net, tale)
            for spot in all_spots(net, tale[0])[::3]:
                self.assertEqual(seen_of(tale, spot, heard[spot]), seen(net, tale, spot))


class Alike(unittest.TestCase):
    def same(self, expected, one, other, spot, net=NET):
        self.assertTrue(is_good(net, one) and is_good(net, other))
        self.assertIs(expected, alike(net, one, other, spot))
        self.assertIs(expected, alike(net, other, one, spot))

    def test_the_same_tale(self):
        for spot in all_spots(NET, 5):
            self.same(True, TALE, TALE, spot)
            self.same(True, TALE, (5, RUNS[::-1], SIGNS[::-1]), spot)

    def test_what_the_spot_does_not_hear(self):
        kept = [run for run in RUNS if run != (1, 2, 0, 3)]
        for runs in ([(1, 2, 0, 2)], [(1, 2, 0, 5)], [(1, 2, 0, 3), (1, 2, 1, 2)], [(1, 2, 0, 3), (2, 0, 1, 5)]):
            self.same(True, TALE, (5, kept + runs, SIGNS), (1, 5))
        # It hears house 2 up to turn 1.
        self.same(False, TALE, (5, kept + [(1, 2, 0, 1)], SIGNS), (1, 5))
        self.same(True, TALE, (5, RUNS, [sign for sign in SIGNS if sign != (2, 2, "a")]), (1, 5))
        self.same(True, TALE, (5, RUNS, SIGNS + [(2, 2, "new"), (0, 4, "z"), (2, 5, "z")]), (1, 5))

    def test_a_run_that_it_has_seen(self):
        kept = [run for run in RUNS if run != (2, 1, 1, 4)]
        self.same(False, TALE, (5, kept, SIGNS), (1, 4))
        self.same(True, TALE, (5, kept, SIGNS), (1, 3))
        for run in ((2, 1, 1, 3), (2, 1, 1, 5), (2, 1, 0, 4), (2, 1, 2, 4)):
            self.same(False, TALE, (5, kept + [run], SIGNS), (1, 5))
        self.same(False, TALE, (5, RUNS + [(2, 1, 0, 4)], SIGNS), (1, 4))
        self.same(True, TALE, (5, RUNS + [(2, 1, 0, 5)], SIGNS), (1, 4))

    def test_a_sign_that_it_has_seen(self):
        kept = [sign for sign in SIGNS if sign != (2, 1, "b")]
        for signs in ([], [(2, 0, "b")], [(2, 2, "b")], [(2, 1, "bb")], [(2, 1, "c")], [(0, 1, "b")]):
            self.same(False, TALE, (5, RUNS, kept + signs), (1, 4))
            self.same(True, TALE, (5, RUNS, kept + [sign for sign in signs if sign[0] == 2]), (0, 1))
        self.same(False, TALE, (5, RUNS, SIGNS + [(2, 0, "new")]), (1, 4))

    def test_a_run_through_another_house(self):
        row = (3, [(0, 1, None), (1, 2, None)])
        far = (4, [(0, 1, 0, 1), (1, 2, 1, 2)], [])
        self.same(False, far, (4, [(1, 2, 1, 2)], []), (2, 2), row)
        self.same(True, far, (4, [(1, 2, 1, 2), (0, 1, 0, 2)], []), (1, 0), row)
        self.same(True, (4, [(1, 2, 1, 2)], []), (4, [(1, 2, 1, 2), (0, 1, 0, 2)], []), (2, 4), row)

    def test_unlike_last_turns(self):
        early = (4, [run for run in RUNS if run[3] <= 4], SIGNS)
        for spot in all_spots(NET, 4):
            self.same(True, early, TALE, spot)
        long = (60, RUNS + [run for run in due_runs(NET, 60) if run[2] > 3 or run[0] == 1 and run[2] > 0], SIGNS)
        self.assertTrue(is_good(NET, long))
        for turn in range(5):
            self.same(True, early, long, (1, turn))
        self.same(False, (4, early[1], SIGNS[1:]), long, (1, 4))

    def test_all_pairs_of_small_tales(self):
        for made in (SURE_WORLD, WIDE_WORLD):
            world = World(*made)
            for spot in all_spots(world.net, world.last):
                for one, other in itertools.product(range(0, len(world.tales), 11), range(0, len(world.tales), 13)):
                    expected = world.view(one, spot) == world.view(other, spot)
                    self.same(expected, world.tales[one], world.tales[other], spot, world.net)


class Slowest(unittest.TestCase):
    def test_just_at_left_and_most_together(self):
        net = (2, [(0, 1, 3), (1, 0, 1)])
        self.assertEqual((2, [(1, 0, 0, 1), (1, 0, 1, 2)], []), slowest(net, ((0, 0), [], []), 2))
        self.assertEqual((3, [(0, 1, 0, 3), (1, 0, 0, 1), (1, 0, 1, 2), (1, 0, 2, 3)], []),
                         slowest(net, ((0, 0), [], []), 3))
        self.assertEqual((0, [], [(0, 0, "a")]), slowest(net, ((0, 0), [], [(0, 0, "a")]), 0))

    def test_seen_runs_stay_and_others_do_not(self):
        view = seen(NET, TALE, (1, 3))
        self.assertEqual([(0, 1, 0, 1), (0, 1, 1, 3), (0, 1, 2, 3), (2, 0, 0, 2)], view[1])
        expected = [(0, 1, 0, 1), (0, 1, 1, 3), (0, 1, 2, 3), (0, 1, 3, 5), (1, 2, 0, 5), (2, 0, 0, 2)]
        self.assertEqual((5, expected, view[2]), slowest(NET, view, 5))
        self.assertEqual((4, [run for run in expected if run[3] < 5], view[2]), slowest(NET, view, 4))
        self.assertEqual((3, view[1], view[2]), slowest(NET, view, 3))

    def test_paths_without_a_most(self):
        for last in (0, 4, 60):
            self.assertEqual((last, [], []), slowest(LOOSE, ((0, 0), [], []), last))
        view = ((1, 2), [(0, 1, 1, 2)], [(0, 1, "a")])
        self.assertEqual((60, view[1], view[2]), slowest(LOOSE, view, 60))

    def test_mosts_of_many_figures(self):
        for most in (60, 61, 62, 10 ** 30, GREATEST - 1, GREATEST):
            expected = [(0, 1, 0, 60)] if most == 60 else []
            self.assertEqual((60, expected, []), slowest((2, [(0, 1, most)]), ((0, 5), [], []), 60))
            self.assertEqual((59, [], []), slowest((2, [(0, 1, most)]), ((0, 5), [], []), 59))
        view = ((1, 4), [(0, 1, 0, 4)], [])
        self.assertEqual((60, view[1], []), slowest((2, [(0, 1, GREATEST)]), view, 60))

    def test_no_paths(self):
        self.assertEqual((0, [], []), slowest((1, []), ((0, 0), [], []), 0))
        self.assertEqual((60, [], [(0, 0, "a"), (0, 0, "b")]),
                         slowest((1, []), ((0, 0), [], [(0, 0, "a"), (0, 0, "b")]), 60))

    def test_in_ascending_order(self):
        for net, tale in TALES:
            for spot in all_spots(net, tale[0])[::9]:
                told = slowest(net, seen(net, tale, spot), tale[0])
                self.assertEqual((tale[0], sorted(told[1]), sorted(told[2])), told)

    def holds_for(self, net, tale, spot, last):
        view = seen(net, tale, spot)
        told = slowest(net, view, last)
        self.assertEqual(slowest_of(net, view, last), told)
        self.assertTrue(is_good(net, told))
        self.assertTrue(alike(net, tale, told, spot))
        self.assertEqual(told, slowest(net, seen(net, told, spot), last))

    def test_good_and_looks_the_same_with_any_last_turn(self):
        for net, tale in TALES:
            for spot in all_spots(net, tale[0])[::13]:
                for last in {spot[1], min(spot[1] + 1, 60), tale[0], 59, 60}:
                    if last >= spot[1]:
                        self.holds_for(net, tale, spot, last)

    def test_every_last_turn_from_the_spots(self):
        for spot in all_spots(NET, 5):
            for last in range(spot[1], 61):
                self.holds_for(NET, TALE, spot, last)

    def test_nothing_is_heard_but_what_is_heard_in_each_other(self):
        for made in WORLDS:
            world = World(*made)
            for spot, groups in world.groups.items():
                for group in groups:
                    slow = slowest(world.net, world.view(group[0], spot), world.last)
                    self.assertEqual(slowest_of(world.net, world.view(group[0], spot), world.last), slow)
                    heard = hearing(world.net, slow)
                    for place in group:
                        self.assertTrue(all(heard[at] <= world.heard[place][at] for at in heard))
                        self.assertLessEqual(set(slow[2]), set(world.tales[place][2]))

    def test_nothing_more_is_heard_with_another_last_turn(self):
        for net, last, signs in (LOOSE_WORLD, SURE_WORLD, WIDE_WORLD):
            longer = World(net, last, signs)
            shorter = World(net, last - 1, [sign for sign in signs if sign[1] < last])
            for one, other in ((longer, shorter), (shorter, longer)):
                for spot in all_spots(net, last - 1):
                    self.not_more(one, other, spot)

    def not_more(self, world, other, spot):
        """The views of one world, told on with the last turn of another one that has them too."""
        met = {repr(other.view(group[0], spot)): group for group in other.groups[spot]}
        for group in world.groups[spot]:
            view = world.view(group[0], spot)
            slow = slowest(world.net, view, other.last)
            self.assertTrue(is_good(world.net, slow))
            heard = hearing(world.net, slow)
            for place in met[repr(view)]:
                self.assertTrue(all(heard[at] <= other.heard[place][at] for at in heard))


class HandedInAndTold(unittest.TestCase):
    def test_seen(self):
        keeps_to_itself(self, seen, NET, TALE, (1, 5))
        keeps_to_itself(self, seen, (1, []), (0, [], []), (0, 0))
        whole = (2, [(0, 1, 0, 1), (0, 1, 1, 2)], [(0, 0, "a"), (1, 2, "a")])
        self.assertEqual(((1, 2), whole[1], whole[2]), keeps_to_itself(self, seen, LOOSE, whole, (1, 2)))
        for net, tale in TALES:
            for spot in all_spots(net, tale[0])[::40]:
                keeps_to_itself(self, seen, net, tale, spot)

    def test_alike(self):
        for spot in all_spots(NET, 5):
            keeps_to_itself(self, alike, NET, TALE, (5, RUNS[::-1], SIGNS[1:]), spot)

    def test_slowest(self):
        for net, tale in TALES + [(LOOSE, (2, [(0, 1, 0, 1)], [(0, 0, "a")])), (NET, TALE)]:
            for spot in all_spots(net, tale[0])[::40] + [(1, tale[0])]:
                view = seen(net, tale, spot)
                told = keeps_to_itself(self, slowest, net, view, tale[0])
                keeps_to_itself(self, slowest, net, view, 60)
                self.assertEqual(told, slowest(net, view, tale[0]))

    def test_a_view_stays_when_its_tale_is_changed(self):
        tale = (3, [(0, 1, 0, 1)], [(0, 0, "a")])
        view = seen(LOOSE, tale, (1, 3))
        slow = slowest(LOOSE, view, 3)
        tale[1].clear()
        tale[2].clear()
        self.assertEqual(((1, 3), [(0, 1, 0, 1)], [(0, 0, "a")]), view)
        view[1].clear()
        view[2].clear()
        self.assertEqual((3, [(0, 1, 0, 1)], [(0, 0, "a")]), slow)
        self.assertEqual(((1, 3), [], []), seen(LOOSE, tale, (1, 3)))


if __name__ == "__main__":
    unittest.main()

import itertools
import unittest

from hearsay.looks import seen, slowest
from hearsay.nets import sure_times
from hearsay.sentences import Came, Shared
from hearsay.stands import hub, stands_of
from tests.helper import (FIRE, FIRE_NET, GREATEST, LOOSE, WORLDS, World, all_spots, build, dice, due_runs, hearing,
                          house_lists, is_good, keeps_to_itself, larger_tales, nested, some_houses, some_places)

TALES = list(larger_tales(120, [1, 2, 2, 3, 5, None, GREATEST], 12))
WORLD_LIST = [World(*made) for made in WORLDS]


def knows_of_sign(net, tale, sign, spots):
    """Whether the first spot knows that the next one knows and so on that this very sign came."""
    for spot in spots:
        tale = slowest(net, seen(net, tale, spot), tale[0])
    return sign in tale[2]


class Walked(unittest.TestCase):
    def walk(self, net, heard, sign, spots, stands):
        """Walks stands as point 13 tells; heard is what helper.hearing told of the tale."""
        self.assertIsInstance(stands, list)
        self.assertEqual(len(spots), len(stands))
        self.assertEqual(spots[0], stands[0])
        for ahead, stand in zip(stands, stands[1:]):
            self.assertIn(stand, heard[ahead])
        self.assertIn(sign[:2], heard[stands[-1]])
        for stand, spot in zip(stands, spots):
            self.assertEqual((tuple, 2), (type(stand), len(stand)))
            time = sure_times(net, stand[0])[spot[0]]
            self.assertIsNotNone(time)
            self.assertLessEqual(stand[1] + time, spot[1])


class Stands(Walked):
    def check(self, net, tale, sign, spots, expected, heard=None):
        told = stands_of(net, tale, sign, list(spots))
        if expected:
            self.walk(net, heard or hearing(net, tale), sign, list(spots), told)
        else:
            self.assertIsNone(told)

    def fire(self, expected, *spots):
        self.check(FIRE_NET, FIRE, (0, 1, "fire"), spots, expected)

    def test_one_alone(self):
        self.assertEqual([(1, 3)], stands_of(FIRE_NET, FIRE, (0, 1, "fire"), [(1, 3)]))
        self.assertEqual([(0, 1)], stands_of(FIRE_NET, FIRE, (0, 1, "fire"), [(0, 1)]))
        self.assertEqual([(1, 6)], stands_of(FIRE_NET, FIRE, (0, 1, "fire"), [(1, 6)]))
        self.assertIsNone(stands_of(FIRE_NET, FIRE, (0, 1, "fire"), [(1, 2)]))
        self.assertIsNone(stands_of(FIRE_NET, FIRE, (0, 1, "fire"), [(0, 0)]))
        alone = ((1, []), (0, [], [(0, 0, "a")]), (0, 0, "a"))
        self.assertEqual([(0, 0)], stands_of(*alone, [(0, 0)]))
        self.assertEqual([(0, 0)] * 10, stands_of(*alone, [(0, 0)] * 10))

    def test_by_hand(self):
        self.assertEqual([(1, 3), (0, 1)], stands_of(FIRE_NET, FIRE, (0, 1, "fire"), [(1, 3), (2, 4)]))
        self.fire(True, (0, 1), (1, 3))
        self.fire(False, (0, 1), (1, 2))
        self.fire(False, (1, 3), (2, 3))
        self.fire(False, (1, 2), (2, 6))
        self.fire(True, (2, 4), (1, 3), (2, 4), (0, 1))
        self.fire(False, (2, 4), (1, 3), (2, 4), (0, 0))

    def test_in_any_order_of_turns(self):
        spots = [(1, 3), (2, 4), (0, 1), (1, 6), (0, 5)]
        for order in itertools.permutations(spots):
            self.fire(True, *order)
            self.fire(False, *order, (2, 3))
            self.fire(False, (0, 0), *order)

    def test_a_spot_that_only_a_runner_could_tell_of(self):
        fast = (60, [(start, goal, left, left + 1) for start, goal in ((0, 1), (1, 0)) for left in range(60)],
                [(0, 0, "a")])
        for many in range(1, 11):
            spots = [((many - place) % 2, many - place) for place in range(many)]
            self.assertEqual(spots, stands_of(LOOSE, fast, (0, 0, "a"), spots))
            late = [spots[0]] + [(house, turn - 1) for house, turn in spots[1:]]
            self.check(LOOSE, fast, (0, 0, "a"), late, many == 1)

    def test_the_first_is_the_first_of_the_list(self):
        for turn in range(3, 7):
            self.assertEqual((1, turn), stands_of(FIRE_NET, FIRE, (0, 1, "fire"), [(1, turn), (0, 2)])[0])

    def test_signs_of_one_name(self):
        tale = (6, FIRE[1], [(0, 1, "fire"), (1, 0, "fire"), (2, 6, "fire"), (0, 0, "flood")])
        spots = [(1, 3), (2, 4)]
        self.check(FIRE_NET, tale, (0, 1, "fire"), spots, True)
        self.check(FIRE_NET, tale, (0, 0, "flood"), spots, True)
        # It came to house 1 itself, and of that house 2 never hears.
        self.check(FIRE_NET, tale, (1, 0, "fire"), spots, False)
        self.check(FIRE_NET, tale, (1, 0, "fire"), [(1, 3), (1, 0), (1, 6)], True)
        self.check(FIRE_NET, tale, (2, 6, "fire"), spots, False)
        self.check(FIRE_NET, tale, (2, 6, "fire"), [(2, 6)] * 10, True)

    def test_mosts_of_sixty_figures(self):
        net = (2, [(0, 1, GREATEST), (1, 0, 60)])
        tale = (60, [(0, 1, 0, 1), (1, 0, 0, 60)], [(0, 0, "a"), (1, 0, "b")])
        self.assertTrue(is_good(net, tale))
        self.check(net, tale, (0, 0, "a"), [(0, 60), (1, 60)], False)
        self.check(net, tale, (0, 0, "a"), [(1, 1), (1, 60), (0, 0)], True)
        self.check(net, tale, (1, 0, "b"), [(1, 0), (0, 60)], True)
        self.check(net, tale, (1, 0, "b"), [(1, 0), (0, 59)], False)

    def test_in_worlds_just_where_it_is_known(self):
        for world in WORLD_LIST:
            spots = all_spots(world.net, world.last)
            lists = list(itertools.product(spots, repeat=1)) + list(itertools.product(spots, repeat=2))[::2]
            lists += list(itertools.product(spots, repeat=3))[::23]
            signs = sorted({sign for tale in world.tales for sign in tale[2]})
            met = {True: 0, False: 0}
            for number, listed in enumerate(lists):
                sign = signs[number % len(signs)]
                where = world.where(nested(listed, ("sign", sign)))
                for place in some_places(world, number):
                    if sign in world.tales[place][2]:
                        met[place in where] += 1
                        self.check(world.net, world.tales[place], sign, listed, place in where, world.heard[place])
            self.assertLess(30, min(met.values()), world.net)

    def test_in_worlds_long_lists(self):
        throw = dice(13)
        for world in WORLD_LIST:
            spots = all_spots(world.net, world.last)
            for many in (4, 5, 7, 9, 10, 10, 10, 10):
                listed = [max(spots[throw(len(spots))], spots[throw(len(spots))], key=turn_of) for spot in range(many)]
                for sign in sorted({sign for tale in world.tales for sign in tale[2]}):
                    where = world.where(nested(listed, ("sign", sign)))
                    for place in some_places(world, throw(29)):
                        if sign in world.tales[place][2]:
                            self.check(world.net, world.tales[place], sign, listed, place in where, world.heard[place])

    def test_larger_tales(self):
        met = {True: 0, False: 0}
        for seed, (net, tale) in enumerate(TALES):
            throw = dice(seed + 51)
            heard = hearing(net, tale)
            for lap in range(60):
                sign = tale[2][throw(len(tale[2]))]
                spots = [(throw(net[0]), max(throw(tale[0] + 1), throw(tale[0] + 1))) for spot in range(1 + throw(4))]
                if lap % 10 == 0:
                    spots = (spots * 10)[:10]
                expected = knows_of_sign(net, tale, sign, spots)
                met[expected] += 1
                self.check(net, tale, sign, spots, expected, heard)
        self.assertLess(30, min(met.values()))

    def test_by_the_sentences_where_the_name_is_the_signs_own(self):
        for net, tale in TALES[:3]:
            named = (tale[0], tale[1], [(house, turn, "abcdefghijklmnop"[place])
                                        for place, (house, turn, name) in enumerate(tale[2])])
            throw = dice(net[0])
            heard = hearing(net, named)
            for lap in range(120):
                sign = named[2][throw(len(named[2]))]
                spots = [(throw(net[0]), tale[0] - throw(3)) for spot in range(1 + throw(5))]
                expected = build(nested(spots, ("came", sign[2]))).holds(net, named)
                self.check(net, named, sign, spots, expected, heard)

    def test_nothing_changed_and_nothing_kept(self):
        spots = [(1, 6), (2, 4), (0, 1)]
        keeps_to_itself(self, stands_of, FIRE_NET, FIRE, (0, 1, "fire"), spots)
        keeps_to_itself(self, stands_of, FIRE_NET, FIRE, (0, 1, "fire"), [(0, 0)])
        keeps_to_itself(self, stands_of, FIRE_NET, FIRE, (0, 1, "fire"), [(0, 1)])
        for net, tale in TALES:
            for sign in tale[2]:
                keeps_to_itself(self, stands_of, net, tale, sign, [(0, tale[0]), (sign[0], tale[0])])

    def test_the_order_of_runs_and_signs_does_not_matter(self):
        for spots in itertools.product(all_spots(FIRE_NET, 6)[::2], repeat=2):
            turned = (6, FIRE[1][::-1], [(2, 0, "a"), (0, 1, "fire"), (1, 0, "fire")])
            expected = stands_of(FIRE_NET, FIRE, (0, 1, "fire"), list(spots)) is not None
            self.check(FIRE_NET, turned, (0, 1, "fire"), spots, expected)


def turn_of(spot):
    return spot[1]


class Hubs(unittest.TestCase):
    def check(self, net, tale, asked_for, expected, heard=None):
        name, houses, turn = asked_for
        told = hub(net, tale, name, list(houses), turn)
        if not expected:
            self.assertIsNone(told)
            return
        self.assertEqual((tuple, 2), (type(told), len(told)))
        heard = heard or hearing(net, tale)
        self.assertTrue(any(sign[2] == name and sign[:2] in heard[told] for sign in tale[2]))
        for house in houses:
            time = sure_times(net, told[0])[house]
            self.assertIsNotNone(time)
            self.assertLessEqual(told[1] + time, turn)

    def test_by_hand(self):
        self.assertEqual((0, 1), hub(FIRE_NET, FIRE, "fire", [1, 2], 4))
        for turn in range(7):
            self.check(FIRE_NET, FIRE, ("fire", [1, 2], turn), turn >= 4)
            self.check(FIRE_NET, FIRE, ("fire", [2, 0, 1], turn), turn >= 4)
            self.check(FIRE_NET, FIRE, ("fire", [0, 1], turn), turn >= 3)
            self.check(FIRE_NET, FIRE, ("fire", [2], turn), turn >= 4)
            self.check(FIRE_NET, FIRE, ("fire", [0], turn), turn >= 1)

    def test_a_house_that_heard_sooner_is_no_hub_without_sure_times(self):
        net = (3, [(0, 1, None), (1, 0, 1), (1, 2, 3), (0, 2, 9)])
        tale = (9, due_runs(net, 9) + [(0, 1, 0, 2)], [(0, 0, "a")])
        self.assertTrue(is_good(net, tale))
        self.assertEqual((1, 2), hub(net, tale, "a", [0, 2], 5))
        self.check(net, tale, ("a", [0, 2], 4), False)
        self.check(net, tale, ("a", [2, 0, 1], 5), True)

    def test_a_name_that_no_sign_has(self):
        for name in ("flood", "fir", "fires", "f", "zzzzzzzzzzzz"):
            for turn in range(7):
                self.assertIsNone(hub(FIRE_NET, FIRE, name, [0], turn))
                self.assertIsNone(hub(FIRE_NET, FIRE, name, [0, 1, 2], turn))
        self.assertIsNone(hub((1, []), (0, [], []), "a", [0], 0))

    def test_several_signs_of_one_name(self):
        tale = (6, FIRE[1], [(1, 0, "fire"), (0, 5, "fire"), (0, 2, "fire"), (2, 0, "flood")])
        for turn in range(7):
            self.check(FIRE_NET, tale, ("fire", [1, 2], turn), turn >= 5)
            self.check(FIRE_NET, tale, ("fire", [1], turn), True)
            self.check(FIRE_NET, tale, ("flood", [2], turn), True)
            self.check(FIRE_NET, tale, ("flood", [1], turn), False)

    def test_mosts_of_sixty_figures(self):
        net = (2, [(0, 1, GREATEST)])
        tale = (60, [(0, 1, 0, 1)], [(0, 0, "a")])
        self.check(net, tale, ("a", [0, 1], 60), False)
        self.check(net, tale, ("a", [1], 1), True)

    def test_in_worlds_just_where_it_is_shared(self):
        for world in WORLD_LIST:
            met = {True: 0, False: 0}
            for houses in house_lists(world.net[0]):
                for turn, name in itertools.product(range(world.last + 1), "abcd"):
                    where = world.where(("shared", houses, turn, ("came", name)))
                    for place in some_places(world, turn):
                        met[place in where] += 1
                        self.check(world.net, world.tales[place], (name, houses, turn), place in where,
                                   world.heard[place])
            self.assertLess(30, min(met.values()), world.net)

    def test_larger_tales(self):
        met = {True: 0, False: 0}
        for seed, (net, tale) in enumerate(TALES):
            throw = dice(seed + 7)
            heard = hearing(net, tale)
            for lap in range(60):
                houses = some_houses(throw, net[0])
                turn = throw(tale[0] + 1)
                name = "abcd"[throw(4)]
                expected = Shared(list(houses), turn, Came(name)).holds(net, tale)
                met[expected] += 1
                self.check(net, tale, (name, houses, turn), expected, heard)
        self.assertLess(30, min(met.values()))

    def test_nothing_changed_and_nothing_kept(self):
        for turn in range(7):
            keeps_to_itself(self, hub, FIRE_NET, FIRE, "fire", [1, 2], turn)
        for net, tale in TALES:
            keeps_to_itself(self, hub, net, tale, "a", [1, 0], tale[0])


if __name__ == "__main__":
    unittest.main()

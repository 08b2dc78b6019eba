import itertools
import unittest

from hearsay.heard import heard_by
from hearsay.looks import seen, slowest
from hearsay.nets import sure_times
from hearsay.sentences import Both, Came, Either, Knows, Sentence, Shared, common
from tests.helper import (FIRE, FIRE_NET, GREATEST, LEAST, LOOSE, LOOSE_WORLD, SURE_WORLD, WIDE_WORLD, WORLDS, World,
                          all_spots, build, deep_spec, dice, due_runs, hearing, house_lists, is_good,
                          keeps_to_itself, larger_tales, plain_specs, seen_of, shape, slowest_of, some_houses,
                          some_spec)

NET = FIRE_NET
TALES = list(larger_tales(80, [1, 2, 2, 3, 5, None, GREATEST], 12))


def common_of(net, tale, houses, turn):
    """The common tale as point 11 tells it, by what helper.py tells of seen and slowest."""
    tale = (tale[0], sorted(tale[1]), sorted(tale[2]))
    while True:
        before = tale
        for house in houses:
            view = seen_of(tale, (house, turn), hearing(net, tale)[(house, turn)])
            tale = slowest_of(net, view, tale[0])
        if tale == before:
            return tale


def asked(sentence, net, tale):
    return sentence.holds(net, tale)


class Base(unittest.TestCase):
    def test_holds_in_no_tale(self):
        for net, tale in TALES + [((1, []), (0, [], [])), (NET, FIRE)]:
            self.assertIs(False, Sentence().holds(net, tale))

    def test_within_others(self):
        self.assertIs(False, Knows(0, 6, Sentence()).holds(NET, FIRE))
        self.assertIs(False, Shared([0, 1], 6, Sentence()).holds(NET, FIRE))
        self.assertIs(False, Both(Came("fire"), Sentence()).holds(NET, FIRE))
        self.assertIs(True, Either(Sentence(), Came("fire")).holds(NET, FIRE))

    def test_each_class_stands_under_it(self):
        for kind in (Came, Both, Either, Knows, Shared):
            self.assertEqual((Sentence,), kind.__bases__)


class Cames(unittest.TestCase):
    def holds(self, expected, name, *by):
        tale = (60, [], [(1, 7, "fire"), (0, 9, "fire"), (0, 0, "flood"), (1, 60, "end")])
        self.assertIs(expected, Came(name, *by).holds(LOOSE, tale), (name, by))

    def test_at_any_turn(self):
        for name in ("fire", "flood", "end"):
            self.holds(True, name)
            self.holds(True, name, None)
        self.assertIs(True, Came("a", by=None).holds((1, []), (0, [], [(0, 0, "a")])))
        self.assertIs(True, Came(name="a", by=0).holds((1, []), (0, [], [(0, 0, "a")])))

    def test_just_at_the_turn_ahead_of_it_and_behind(self):
        for by, expected in ((6, False), (7, True), (8, True), (9, True), (10, True), (60, True), (0, False)):
            self.holds(expected, "fire", by)
        self.holds(True, "flood", 0)
        self.holds(True, "end", 60)
        self.holds(False, "end", 59)
        self.holds(True, "end", 61)

    def test_below_nought_and_sixty_figures(self):
        for name in ("fire", "flood", "end"):
            for by in (-1, -2, LEAST):
                self.holds(False, name, by)
            self.holds(True, name, GREATEST)

    def test_names_that_begin_like_others(self):
        for name in ("f", "fir", "fires", "ire", "fl", "floods", "e", "en", "ends", "firefirefire"):
            self.holds(False, name)
            self.holds(False, name, GREATEST)
        tale = (3, [], [(0, 3, "a"), (0, 1, "ab")])
        self.assertIs(False, Came("a", 2).holds(LOOSE, tale))
        self.assertIs(True, Came("ab", 2).holds(LOOSE, tale))

    def test_no_signs(self):
        self.assertIs(False, Came("a").holds((1, []), (0, [], [])))
        self.assertIs(False, Came("a", GREATEST).holds((1, []), (60, [], [])))

    def test_forty_signs(self):
        signs = [(turn % 2, turn, "abcdefgh"[turn % 8]) for turn in range(40)]
        for name in "abcdefghi":
            for by in range(-1, 41):
                expected = any(sign[2] == name and sign[1] <= by for sign in signs)
                self.assertIs(expected, Came(name, by).holds(LOOSE, (60, [], signs)))


class ByHand(unittest.TestCase):
    def test_who_has_heard_knows(self):
        self.assertEqual([False] + [True] * 6, [Knows(0, turn, Came("fire")).holds(NET, FIRE) for turn in range(7)])
        self.assertEqual([False] * 3 + [True] * 4,
                         [Knows(1, turn, Came("fire")).holds(NET, FIRE) for turn in range(7)])
        self.assertEqual([False] * 4 + [True] * 3,
                         [Knows(2, turn, Came("fire")).holds(NET, FIRE) for turn in range(7)])

    def test_knowing_ahead_of_time_what_will_be_known(self):
        self.assertIs(True, Knows(0, 1, Knows(1, 3, Came("fire"))).holds(NET, FIRE))
        self.assertIs(False, Knows(0, 1, Knows(1, 2, Came("fire"))).holds(NET, FIRE))
        self.assertIs(True, Knows(0, 1, Both(Knows(1, 3, Came("fire")), Knows(2, 4, Came("fire")))).holds(NET, FIRE))

    def test_knowing_without_a_word_from_the_other(self):
        self.assertIs(True, Knows(1, 4, Knows(2, 4, Came("fire"))).holds(NET, FIRE))
        self.assertIs(False, Knows(1, 4, Knows(2, 3, Came("fire"))).holds(NET, FIRE))
        self.assertIs(False, Knows(1, 2, Knows(2, 6, Came("fire"))).holds(NET, FIRE))

    def test_shared_just_when_all_have_surely_heard(self):
        for turn in range(7):
            self.assertIs(turn >= 4, Shared([1, 2], turn, Came("fire")).holds(NET, FIRE))
            self.assertIs(turn >= 4, Shared([2, 0, 1], turn, Came("fire")).holds(NET, FIRE))
            self.assertIs(turn >= 3, Shared([0, 1], turn, Came("fire")).holds(NET, FIRE))

    def test_without_mosts_nothing_is_shared(self):
        fast = (60, [(start, goal, left, left + 1) for start, goal in ((0, 1), (1, 0)) for left in range(60)],
                [(0, 0, "a")])
        inside = Came("a")
        for deep in range(30):
            self.assertIs(True, inside.holds(LOOSE, fast))
            inside = Knows(deep % 2, 60, inside)
        self.assertIs(False, Shared([0, 1], 60, Came("a")).holds(LOOSE, fast))
        self.assertEqual((60, [], []), common(LOOSE, fast, [0, 1], 60))

    def test_the_turn_0_and_one_house(self):
        tale = (0, [], [(0, 0, "a")])
        for turn in (0,):
            self.assertIs(True, Knows(0, turn, Came("a")).holds((1, []), tale))
            self.assertIs(True, Shared([0], turn, Came("a")).holds((1, []), tale))
            self.assertIs(False, Knows(0, turn, Came("b")).holds((1, []), tale))


class InWorlds(unittest.TestCase):
    def check(self, world, specs, step):
        """How many of the sentences hold in some of the tales and not in others."""
        mixed = 0
        for place, spec in enumerate(specs):
            where = world.where(spec)
            mixed += 0 < len(where) < len(world.tales)
            sentence = build(spec)
            for number in range(place % step, len(world.tales), step):
                self.assertIs(number in where, sentence.holds(world.net, world.tales[number]),
                              (world.net, world.tales[number], spec))
        return mixed

    def test_each_kind_within_each_other(self):
        for made, step in zip(WORLDS, (11, 1, 5, 1)):
            world = World(*made)
            self.assertLess(20, self.check(world, plain_specs(world.net, world.last), step))

    def test_several_deep(self):
        throw = dice(3)
        for made, step in zip(WORLDS, (11, 1, 5, 1)):
            world = World(*made)
            specs = [some_spec(throw, world.net, world.last, deep) for deep in (3, 4, 5, 6, 7) for spec in range(16)]
            self.assertLess(10, self.check(world, specs, step))

    def test_forty_parts_twenty_deep(self):
        throw = dice(4)
        for made, step in zip(WORLDS, (37, 3, 11, 1)):
            world = World(*made)
            self.check(world, [deep_spec(throw, world.net, world.last) for spec in range(12)], step)

    def test_a_larger_world(self):
        world = World((3, [(0, 1, None), (1, 2, 1), (2, 0, 2), (1, 0, None)]), 3, [(0, 0, "a")])
        specs = [("knows", 0, 3, ("knows", 1, 3, ("knows", 2, 3, ("came", "a")))),
                 ("knows", 2, 2, ("knows", 1, 1, ("came", "a"))),
                 ("knows", 1, 3, ("shared", (2, 0), 3, ("came", "a"))),
                 ("shared", (0, 1), 3, ("came", "a")),
                 ("shared", (0, 1, 2), 3, ("either", ("came", "a"), ("knows", 0, 2, ("came", "a"))))]
        self.check(world, specs, 19)


class SharedAmong(unittest.TestCase):
    def test_one_house_is_as_knows(self):
        for made in WORLDS:
            world = World(*made)
            for place, tale in enumerate(world.tales[::7]):
                for house, turn in all_spots(world.net, world.last):
                    inside = Came("ab"[place % 2])
                    self.assertIs(Knows(house, turn, inside).holds(world.net, tale),
                                  Shared([house], turn, inside).holds(world.net, tale))

    def test_the_order_of_the_houses(self):
        for net, tale in TALES[:3]:
            for turn in range(tale[0] + 1):
                for houses in ((0, 1), (0, 1, 2), (0, 2)):
                    inside = Knows(1, tale[0], Came("a"))
                    told = [Shared(list(order), turn, inside).holds(net, tale)
                            for order in itertools.permutations(houses)]
                    self.assertEqual(1, len(set(told)))

    def test_a_list_changed_behind_the_making(self):
        houses = [1, 2]
        sentence = Shared(houses, 3, Came("fire"))
        wide = Shared(houses, 4, Came("fire"))
        houses.pop()
        houses.append(0)
        self.assertIs(False, sentence.holds(NET, FIRE))
        self.assertIs(True, Shared(houses, 3, Came("fire")).holds(NET, FIRE))
        houses.clear()
        self.assertIs(False, sentence.holds(NET, FIRE))
        self.assertIs(True, wide.holds(NET, FIRE))
        self.assertEqual([], houses)

    def test_a_spot_that_hears_and_is_surely_heard_by_all(self):
        met = {True: 0, False: 0}
        for seed, (net, tale) in enumerate(TALES):
            throw = dice(seed)
            times = [sure_times(net, house) for house in range(net[0])]
            for lap in range(40):
                houses = some_houses(throw, net[0])
                turn = throw(tale[0] + 1)
                name = "abc"[throw(3)]
                expected = self.has_hub(net, tale, times, (name, houses, turn))
                met[expected] += 1
                self.assertIs(expected, Shared(list(houses), turn, Came(name)).holds(net, tale))
        self.assertLess(20, met[True])
        self.assertLess(20, met[False])

    def has_hub(self, net, tale, times, asked_for):
        name, houses, turn = asked_for
        for house in range(net[0]):
            if all(times[house][other] is not None for other in houses):
                until = turn - max(times[house][other] for other in houses)
                if until >= 0:
                    heard = heard_by(net, tale, (house, until))
                    if any(sign[2] == name and sign[1] <= heard[sign[0]] for sign in tale[2]):
                        return True
        return False


class Common(unittest.TestCase):
    def check(self, net, tale, houses, turn):
        told = common(net, tale, list(houses), turn)
        self.assertEqual(tale[0], told[0])
        self.assertEqual((tale[0], sorted(told[1]), sorted(told[2])), told)
        self.assertTrue(is_good(net, told))
        for house in houses:
            self.assertEqual(told, slowest(net, seen(net, told, (house, turn)), tale[0]))
        self.assertEqual(told, common(net, told, list(houses), turn))
        return told

    def test_one_for_all_tales_to_which_one_comes_by_steps(self):
        for made in (SURE_WORLD, WIDE_WORLD, LOOSE_WORLD):
            world = World(*made)
            for houses in house_lists(world.net[0]):
                for turn in range(world.last + 1):
                    for group in world.by_steps(houses, turn)[::7]:
                        tales = [world.tales[place] for place in group]
                        told = self.check(world.net, tales[0], houses, turn)
                        self.assertIn(told, [(tale[0], sorted(tale[1]), sorted(tale[2])) for tale in tales])
                        for tale in tales[::29]:
                            self.assertEqual(told, common(world.net, tale, list(houses), turn))

    def test_larger_tales(self):
        for seed, (net, tale) in enumerate(TALES):
            throw = dice(seed + 9)
            for lap in range(6):
                houses = some_houses(throw, net[0])
                turn = tale[0] - throw(min(4, tale[0]))
                told = self.check(net, tale, houses, turn)
                self.assertEqual(common_of(net, tale, houses, turn), told)
                for order in list(itertools.permutations(houses))[:24:5]:
                    self.assertEqual(told, common(net, tale, list(order), turn))

    def test_every_turn_and_the_houses_in_any_order(self):
        for net, tale in TALES[:2]:
            for houses in house_lists(net[0]):
                for turn in range(tale[0] + 1):
                    told = self.check(net, tale, houses, turn)
                    for order in itertools.permutations(houses):
                        self.assertEqual(told, common(net, tale, list(order), turn))

    def test_one_house(self):
        for net, tale in TALES:
            for house, turn in all_spots(net, tale[0])[::11]:
                slow = slowest(net, seen(net, tale, (house, turn)), tale[0])
                self.assertEqual(slow, common(net, tale, [house], turn))

    def test_that_changes_for_none_in_order(self):
        runs = due_runs(NET, 6)
        signs = [(0, 1, "b"), (0, 0, "z"), (0, 1, "a")]
        for turned in (runs, runs[::-1], runs[3:] + runs[:3]):
            told = common(NET, (6, list(turned), list(signs)), [0, 1, 2], 6)
            self.assertEqual((6, sorted(runs), sorted(signs)), told)

    def test_by_hand(self):
        early = [(0, 1, 0, 1), (0, 2, 0, 1), (0, 1, 1, 3), (1, 0, 1, 2), (2, 0, 0, 3)]
        signs = [(2, 0, "c"), (0, 0, "a"), (1, 3, "b"), (1, 0, "d")]
        due = [(0, 1, 0, 2), (0, 1, 1, 3), (0, 2, 0, 3)]
        self.assertTrue(is_good(NET, (3, early, signs)))
        self.assertEqual((3, due, [(0, 0, "a")]), common(NET, (3, early, signs), [1, 2], 3))
        self.assertEqual((3, due, []), common(NET, (3, early, signs), [2, 1], 2))
        # House 2 alone has seen that its runner came early; so it has all that house 0 had by then.
        self.assertEqual((3, [(0, 1, 0, 2), (0, 1, 1, 3), (0, 2, 0, 1)], [(0, 0, "a"), (2, 0, "c")]),
                         common(NET, (3, early, signs), [2], 1))


class HandedInAndTold(unittest.TestCase):
    def some(self):
        for seed, (net, tale) in enumerate(TALES):
            throw = dice(seed + 33)
            for lap in range(6):
                yield net, tale, some_spec(throw, net, tale[0], 5)
            yield net, tale, deep_spec(throw, net, tale[0])
            plain = plain_specs(net, min(tale[0], 9))
            for spec in plain[::len(plain) // 8]:
                yield net, tale, spec

    def test_holds(self):
        for net, tale, spec in self.some():
            keeps_to_itself(self, asked, build(spec), net, tale)

    def test_common(self):
        for net, tale in TALES + [(NET, FIRE), ((1, []), (0, [], [])), (NET, (0, [], [(1, 0, "a")]))]:
            for houses in list(house_lists(net[0]))[::9]:
                keeps_to_itself(self, common, net, tale, list(houses), tale[0])
        ordered = (6, sorted(FIRE[1]), sorted(FIRE[2]))
        self.assertEqual(ordered, keeps_to_itself(self, common, NET, ordered, [0, 1], 6))

    def test_a_sentence_asked_of_another_net_or_tale(self):
        worlds = [World(*made) for made in WORLDS]
        specs = plain_specs((2, []), 2)[::5]
        kept = [build(spec) for spec in specs]
        before = shape(kept)
        for lap in range(12):
            for world in worlds:
                tale = world.tales[lap * 31 % len(world.tales)]
                for sentence, spec in zip(kept, specs):
                    self.assertIs(build(spec).holds(world.net, tale), sentence.holds(world.net, tale))
        self.assertEqual(before, shape(kept))

    def test_one_sentence_within_several(self):
        inside = Came("fire")
        first, second = Knows(1, 3, inside), Shared([1, 2], 3, inside)
        for lap in range(3):
            self.assertIs(True, first.holds(NET, FIRE))
            self.assertIs(False, second.holds(NET, FIRE))
            self.assertIs(True, Either(first, second).holds(NET, FIRE))
            self.assertIs(False, Both(first, second).holds(NET, FIRE))
            self.assertIs(True, Both(first, first).holds(NET, FIRE))

    def test_a_tale_changed_by_the_asker_is_asked_anew(self):
        tale = (3, [], [])
        sentence = Knows(1, 3, Came("a"))
        self.assertIs(False, sentence.holds(LOOSE, tale))
        tale[2].append((0, 0, "a"))
        self.assertIs(False, sentence.holds(LOOSE, tale))
        tale[1].append((0, 1, 0, 3))
        self.assertIs(True, sentence.holds(LOOSE, tale))
        tale[1].clear()
        self.assertIs(False, sentence.holds(LOOSE, tale))


if __name__ == "__main__":
    unittest.main()

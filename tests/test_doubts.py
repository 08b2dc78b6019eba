import unittest

from hearsay.sentences import Both, Came, Either, Knows, Sentence, Shared
from tests.helper import (FIRE, FIRE_NET, GREATEST, LEAST, LOOSE, WORLDS, World, build, deep_spec, dice, is_good,
                          keeps_to_itself, larger_tales, looks_same, plain_specs, shape, sign_came, some_spec, spoil)

NET = FIRE_NET
TALES = list(larger_tales(120, [2, 4, 9, None, GREATEST], 5))


def told_of(sentence, net, tale):
    return sentence.doubt(net, tale)


class Walked(unittest.TestCase):
    def walk(self, net, tale, spec, doubt):
        """Walks a doubt as point 12 tells it: at its end it has been shown that the sentence doesn't hold."""
        self.assertIs(tuple, type(doubt))
        if spec[0] == "base":
            self.assertEqual(("no", ""), doubt)
        elif spec[0] == "came":
            self.assertEqual(("no", spec[1]), doubt)
            self.assertFalse(sign_came(tale, *spec[1:]))
        elif spec[0] == "both":
            self.walk_both(net, tale, spec, doubt)
        elif spec[0] == "either":
            self.assertEqual(("neither", 3), (doubt[0], len(doubt)))
            self.walk(net, tale, spec[1], doubt[1])
            self.walk(net, tale, spec[2], doubt[2])
        elif spec[0] == "knows":
            self.assertEqual(("may", 3), (doubt[0], len(doubt)))
            self.step(net, tale, doubt[1], (spec[1], spec[2]))
            self.walk(net, doubt[1], spec[3], doubt[2])
        else:
            self.walk_row(net, tale, spec, doubt)

    def walk_both(self, net, tale, spec, doubt):
        self.assertEqual(2, len(doubt))
        first = build(spec[1])
        if doubt[0] == "first":
            self.assertFalse(first.holds(net, tale))
            self.walk(net, tale, spec[1], doubt[1])
        else:
            self.assertEqual("second", doubt[0])
            self.assertTrue(first.holds(net, tale))
            self.walk(net, tale, spec[2], doubt[1])

    def walk_row(self, net, tale, spec, doubt):
        self.assertEqual(("row", 3), (doubt[0], len(doubt)))
        self.assertIs(list, type(doubt[1]))
        for step in doubt[1]:
            self.assertEqual((tuple, 2), (type(step), len(step)))
            self.assertIn(step[0], spec[1])
            self.step(net, tale, step[1], (step[0], spec[2]))
            tale = step[1]
        self.walk(net, tale, spec[3], doubt[2])

    def step(self, net, tale, other, spot):
        self.assertEqual((tuple, 3), (type(other), len(other)))
        self.assertEqual((list, list), (type(other[1]), type(other[2])))
        self.assertEqual(tale[0], other[0])
        self.assertTrue(is_good(net, other))
        self.assertTrue(looks_same(net, tale, other, spot))


class Base(unittest.TestCase):
    def test_no_and_an_empty_name(self):
        for net, tale in TALES + [((1, []), (0, [], [])), (NET, FIRE)]:
            self.assertEqual(("no", ""), Sentence().doubt(net, tale))


class ByHand(Walked):
    def test_came(self):
        for by in ((), (None,), (0,), (60,), (GREATEST,), (LEAST,)):
            self.assertEqual(("no", "flood"), Came("flood", *by).doubt(NET, FIRE))
            self.assertEqual(("no", "fir"), Came("fir", *by).doubt(NET, FIRE))
        self.assertEqual(("no", "fire"), Came("fire", 0).doubt(NET, FIRE))
        self.assertEqual(("no", "fire"), Came("fire", -1).doubt(NET, FIRE))
        self.assertIsNone(Came("fire").doubt(NET, FIRE))
        self.assertIsNone(Came("fire", 1).doubt(NET, FIRE))
        self.assertEqual(("no", "zzzzzzzzzzzz"), Came("zzzzzzzzzzzz").doubt((1, []), (0, [], [])))

    def test_both(self):
        yes, first, second = Came("fire"), Came("a"), Came("b")
        self.assertEqual(("first", ("no", "a")), Both(first, second).doubt(NET, FIRE))
        self.assertEqual(("first", ("no", "a")), Both(first, yes).doubt(NET, FIRE))
        self.assertEqual(("second", ("no", "b")), Both(yes, second).doubt(NET, FIRE))
        self.assertIsNone(Both(yes, yes).doubt(NET, FIRE))
        self.assertEqual(("second", ("first", ("no", ""))), Both(yes, Both(Sentence(), second)).doubt(NET, FIRE))

    def test_either(self):
        yes, first, second = Came("fire"), Came("a"), Came("b")
        self.assertEqual(("neither", ("no", "a"), ("no", "b")), Either(first, second).doubt(NET, FIRE))
        self.assertIsNone(Either(first, yes).doubt(NET, FIRE))
        self.assertIsNone(Either(yes, second).doubt(NET, FIRE))
        self.assertIsNone(Either(yes, yes).doubt(NET, FIRE))

    def test_knows(self):
        for turn in range(7):
            spec = ("knows", 1, turn, ("came", "fire"))
            doubt = build(spec).doubt(NET, FIRE)
            if turn >= 3:
                self.assertIsNone(doubt)
            else:
                self.walk(NET, FIRE, spec, doubt)
                self.assertEqual([], doubt[1][2])

    def test_a_row(self):
        for turn in range(7):
            for houses, since in (((1, 2), 4), ((2, 1, 0), 4), ((0, 1), 3), ((0,), 1), ((2,), 4)):
                spec = ("shared", houses, turn, ("came", "fire"))
                doubt = build(spec).doubt(NET, FIRE)
                if turn >= since:
                    self.assertIsNone(doubt)
                else:
                    self.walk(NET, FIRE, spec, doubt)

    def test_a_row_of_many_steps(self):
        runs = [(turn % 2, 1 - turn % 2, turn, turn + 1) for turn in range(59)]
        tale = (60, runs, [(0, 0, "a")])
        spec = ("shared", (0, 1), 60, ("came", "a"))
        doubt = build(spec).doubt(LOOSE, tale)
        self.walk(LOOSE, tale, spec, doubt)
        # Each runner but the first one brought that the one ahead had come: none may be left out.
        self.assertLessEqual(59, len(doubt[1]))

    def test_a_row_where_the_tale_itself_has_no_sign(self):
        for tale in ((6, FIRE[1], []), FIRE, (0, [], [(1, 0, "a")])):
            spec = ("shared", (0, 1), 0, ("came", "flood"))
            self.walk(NET, tale, spec, build(spec).doubt(NET, tale))

    def test_the_base_within_others(self):
        for spec in (("knows", 0, 6, ("base",)), ("shared", (1, 0), 6, ("base",)), ("both", ("came", "fire"), ("base",)),
                     ("both", ("base",), ("came", "fire")), ("either", ("base",), ("knows", 1, 2, ("base",)))):
            self.walk(NET, FIRE, spec, build(spec).doubt(NET, FIRE))


class InWorlds(Walked):
    def check(self, world, specs, step):
        for place, spec in enumerate(specs):
            where = world.where(spec)
            sentence = build(spec)
            for number in range(place % step, len(world.tales), step):
                doubt = sentence.doubt(world.net, world.tales[number])
                if number in where:
                    self.assertIsNone(doubt)
                else:
                    self.walk(world.net, world.tales[number], spec, doubt)

    def test_each_kind_within_each_other(self):
        for made, step in zip(WORLDS, (67, 5, 19, 1)):
            world = World(*made)
            self.check(world, plain_specs(world.net, world.last), step)

    def test_several_deep(self):
        throw = dice(13)
        for made, step in zip(WORLDS, (67, 5, 19, 1)):
            world = World(*made)
            specs = [some_spec(throw, world.net, world.last, deep) for deep in (3, 4, 5, 6, 7) for spec in range(12)]
            self.check(world, specs, step)

    def test_forty_parts_twenty_deep(self):
        throw = dice(14)
        for made, step in zip(WORLDS, (199, 11, 49, 2)):
            world = World(*made)
            self.check(world, [deep_spec(throw, world.net, world.last) for spec in range(12)], step)


class InLargerTales(Walked):
    def test_of_all_kinds(self):
        met = {True: 0, False: 0}
        for seed, (net, tale) in enumerate(TALES):
            throw = dice(seed)
            for lap in range(10):
                spec = some_spec(throw, net, tale[0], 4)
                sentence = build(spec)
                doubt = sentence.doubt(net, tale)
                self.assertIs(sentence.holds(net, tale), doubt is None)
                met[doubt is None] += 1
                if doubt is not None:
                    self.walk(net, tale, spec, doubt)
        self.assertTrue(met[True] and met[False])


class HandedInAndTold(Walked):
    def test_doubt(self):
        for seed, (net, tale) in enumerate(TALES):
            throw = dice(seed + 70)
            specs = [some_spec(throw, net, tale[0], 4) for lap in range(6)]
            specs.append(("shared", (0, 1), tale[0], ("knows", 1, 0, ("came", "nosuch"))))
            specs.append(("knows", 0, tale[0], ("shared", (1, 2), 0, ("base",))))
            for spec in specs + [("came", "nosuch"), ("base",)]:
                keeps_to_itself(self, told_of, build(spec), net, tale)

    def test_the_tale_is_not_told_as_it_was_handed_in(self):
        tale = (6, sorted(FIRE[1]), [(0, 1, "fire")])
        before = shape(tale)
        for spec in (("knows", 0, 6, ("base",)), ("shared", (0, 1), 6, ("base",)), ("shared", (0, 1), 0, ("base",))):
            spoil(build(spec).doubt(NET, tale))
            self.assertEqual(before, shape(tale))

    def test_a_doubt_stays_when_the_tale_is_changed(self):
        tale = (3, [(0, 1, 0, 2)], [(0, 0, "a"), (1, 1, "b")])
        sentence = Shared([0, 1], 3, Knows(1, 3, Came("a")))
        doubt = sentence.doubt(LOOSE, tale)
        kept = shape(doubt)
        tale[1].clear()
        tale[2].clear()
        sentence.doubt(LOOSE, tale)
        self.assertEqual(kept, shape(doubt))

    def test_a_list_of_houses_changed_behind_the_making(self):
        houses = [1, 2]
        sentence = Shared(houses, 3, Came("fire"))
        houses.clear()
        houses.append(0)
        self.walk(NET, FIRE, ("shared", (1, 2), 3, ("came", "fire")), sentence.doubt(NET, FIRE))

    def test_a_sentence_asked_of_another_net_or_tale(self):
        worlds = [World(*made) for made in WORLDS]
        specs = plain_specs((2, []), 2)[::9]
        kept = [build(spec) for spec in specs]
        before = shape(kept)
        for lap in range(8):
            for world in worlds:
                tale = world.tales[lap * 37 % len(world.tales)]
                for sentence, spec in zip(kept, specs):
                    self.assertEqual(build(spec).doubt(world.net, tale), sentence.doubt(world.net, tale))
        self.assertEqual(before, shape(kept))


if __name__ == "__main__":
    unittest.main()

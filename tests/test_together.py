"""What the points promise of one another: sure times, hearing, knowing, sharing, acting and plans."""

import unittest

from hearsay.acts import acts, first_act, in_row
from hearsay.heard import heard_by, trail
from hearsay.looks import seen, slowest
from hearsay.nets import sure_times
from hearsay.plans import fastest, soonest, surely
from hearsay.sentences import Came, Knows, Shared, common
from hearsay.stands import hub, stands_of
from tests.helper import (FIRE_NET, GREATEST, WORLDS, World, all_spots, dice, due_runs, house_lists, larger_tales,
                          plain_specs, some_houses)

TALES = list(larger_tales(400, [1, 2, 2, 3, 5, None, GREATEST], 12))
WORLD_LIST = [World(*made) for made in WORLDS]


class SureTimes(unittest.TestCase):
    def test_behind_the_sure_time_it_is_heard(self):
        for net, tale in TALES:
            for house, turn in all_spots(net, tale[0])[::3]:
                for other, time in enumerate(sure_times(net, house)):
                    if time is not None and turn + time <= tale[0]:
                        self.assertLessEqual(turn, heard_by(net, tale, (other, turn + time))[house])
                        self.assertIsNotNone(trail(net, tale, (house, turn), (other, turn + time)))

    def test_behind_the_sure_time_it_is_known(self):
        for world in WORLD_LIST:
            met = 0
            specs = plain_specs(world.net, world.last)
            for number, (house, turn) in enumerate(all_spots(world.net, world.last)):
                for other, time in enumerate(sure_times(world.net, house)):
                    if time is not None and turn + time <= world.last:
                        for spec in specs[number % 7::7]:
                            known = world.where(("knows", house, turn, spec))
                            self.assertLessEqual(known, world.where(("knows", other, turn + time, spec)))
                            met += 0 < len(known) < len(world.tales)
            self.assertLess(3, met)


class Surely(unittest.TestCase):
    def test_so_many_turns_behind_a_sign_it_is_shared_in_whatever_tale(self):
        for world in WORLD_LIST:
            for sign in sorted({sign for tale in world.tales for sign in tale[2]}):
                for houses in house_lists(world.net[0]):
                    time = surely(world.net, sign[0], list(houses))
                    if time is not None and sign[1] + time <= world.last:
                        self.is_shared_with_the_sign(world, sign, houses, sign[1] + time)

    def is_shared_with_the_sign(self, world, sign, houses, turn):
        where = world.where(("shared", houses, turn, ("came", sign[2])))
        self.assertLessEqual(world.where(("sign", sign)), where)

    def test_so_many_turns_behind_a_sign_of_a_larger_tale(self):
        for seed, (net, tale) in enumerate(TALES):
            throw = dice(seed)
            for house, turn, name in tale[2]:
                houses = list(some_houses(throw, net[0]))
                time = surely(net, house, houses)
                if time is not None and turn + time <= tale[0]:
                    self.assertIs(True, Shared(houses, turn + time, Came(name)).holds(net, tale))
                    self.assertLessEqual(first_act(net, tale, name, houses), turn + time)

    def test_in_the_slowest_one_not_sooner(self):
        for net in [FIRE_NET] + [net for net, tale in TALES[:4]]:
            for house in range(net[0]):
                slow = slowest(net, ((house, 2), [], [(house, 2, "a")]), 14)
                self.assertEqual((14, sorted(due_runs(net, 14)), [(house, 2, "a")]), slow)
                for houses in list(house_lists(net[0]))[:20]:
                    time = surely(net, house, list(houses))
                    first = None if time is None or time > 12 else time + 2
                    self.assertEqual(first, first_act(net, slow, "a", list(houses)))
                    for turn in (0, 2, 4, 7, 14):
                        expected = first is not None and turn >= first
                        self.assertIs(expected, Shared(list(houses), turn, Came("a")).holds(net, slow))


class OneForAnother(unittest.TestCase):
    def some(self):
        for seed, (net, tale) in enumerate(TALES):
            throw = dice(seed + 3)
            for lap in range(12):
                yield net, tale, "abc"[throw(3)], list(some_houses(throw, net[0])), throw(tale[0] + 1)

    def test_a_hub_a_shared_sentence_acting_and_the_common_tale(self):
        for net, tale, name, houses, turn in self.some():
            shared = Shared(houses, turn, Came(name)).holds(net, tale)
            self.assertIs(shared, hub(net, tale, name, houses, turn) is not None)
            self.assertIs(shared, Came(name).holds(net, common(net, tale, houses, turn)))
            for house in houses:
                self.assertIs(shared, acts(net, seen(net, tale, (house, turn)), name, houses))
            first = first_act(net, tale, name, houses)
            self.assertIs(shared, first is not None and turn >= first)

    def test_one_house_alone(self):
        for net, tale, name, houses, turn in self.some():
            for house in houses:
                known = Knows(house, turn, Came(name)).holds(net, tale)
                first = first_act(net, tale, name, [house])
                self.assertEqual([first], in_row(net, tale, name, [house]))
                self.assertIs(known, first is not None and turn >= first)
                heard = heard_by(net, tale, (house, turn))
                self.assertIs(known, any(sign[2] == name and sign[1] <= heard[sign[0]] for sign in tale[2]))

    def test_none_acts_in_a_row_later_than_all_at_once(self):
        for net, tale, name, houses, turn in self.some():
            first = first_act(net, tale, name, houses)
            if first is not None:
                self.assertTrue(all(turn is not None and turn <= first for turn in in_row(net, tale, name, houses)))

    def test_stands_of_the_spots_of_a_row(self):
        for net, tale, name, houses, turn in self.some():
            acted = in_row(net, tale, name, houses)[-1]
            spots = [(house, turn) for house in reversed(houses)]
            signs = [sign for sign in tale[2] if sign[2] == name]
            found = any(stands_of(net, tale, sign, spots) is not None for sign in signs)
            self.assertIs(found, acted is not None and acted <= turn)

    def test_soonest_and_surely(self):
        for net, tale, name, houses, turn in self.some():
            house = turn % net[0]
            soon = soonest(net, house, houses, tale[0])
            fast = fastest(net, tale[0], [(house, 0, name)])
            self.assertEqual(soon, first_act(net, fast, name, houses))
            time = surely(net, house, houses)
            if time is not None and time <= tale[0]:
                self.assertLessEqual(soon, time)
            mine = first_act(net, (tale[0], tale[1], [(house, 0, name)]), name, houses)
            if mine is not None:
                self.assertLessEqual(soon, mine)


if __name__ == "__main__":
    unittest.main()

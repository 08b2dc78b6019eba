import re
import unittest

from hearsay.desk import Desk
from hearsay.nets import check_net
from hearsay.sentences import Came, Shared
from hearsay.tales import check_tale
from tests.helper import (GREATEST, build, by_trying, deep_spec, dice, refusal, row_of, some_spec)

N = "(0|[1-9][0-9]{0,59})"
SIGNS = [sign for sign in map(chr, range(32, 127)) if sign != "%"]
FIRE_ROWS = ["net 3", "path 0 1 2", "path 0 2 3", "path 1 0 -", "path 2 0 -", "turns 6", "sign 0 1 fire"]
LONG = "9" * 60


class NoSentence(Exception):
    pass


class Model:
    """Point 19 over again, by patterns, with the answers found by the sentences at each turn."""

    def __init__(self):
        self.net = (1, [])
        self.tale = (0, [], [])

    def say(self, row):
        for kind in ("net", "path", "turns", "sign", "late", "ask", "act", "row", "sure"):
            if row.startswith(kind + " "):
                return getattr(self, "say_" + kind)(row)
        return "what"

    def keep(self, net, tale):
        if refusal(check_net, net) or refusal(check_tale, net, tale):
            return "no"
        self.net, self.tale = net, tale
        return "ok"

    def say_net(self, row):
        match = re.fullmatch(f"net {N}", row)
        return self.keep((int(match[1]), []), (0, [], [])) if match else "what"

    def say_path(self, row):
        match = re.fullmatch(f"path {N} {N} (?:{N}|-)", row)
        if not match:
            return "what"
        path = (int(match[1]), int(match[2]), None if match[3] is None else int(match[3]))
        return self.keep((self.net[0], self.net[1] + [path]), (0, [], []))

    def say_turns(self, row):
        match = re.fullmatch(f"turns {N}", row)
        if not match:
            return "what"
        last = int(match[1])
        runs = [] if last > 60 else [path[:2] + (left, left + 1) for path in self.net[1] for left in range(last)]
        return self.keep(self.net, (last, runs, []))

    def say_sign(self, row):
        match = re.fullmatch(f"sign {N} {N} ([^ ]+)", row)
        if not match:
            return "what"
        signs = self.tale[2] + [(int(match[1]), int(match[2]), match[3])]
        if len(signs) > 40 or not re.fullmatch("[a-z]{1,12}", match[3]):
            return "no"
        return self.keep(self.net, (self.tale[0], self.tale[1], signs))

    def say_late(self, row):
        match = re.fullmatch(f"late {N} {N} {N} (?:{N}|-)", row)
        if not match:
            return "what"
        start, goal, left = (int(match[place]) for place in (1, 2, 3))
        if (start, goal) not in [path[:2] for path in self.net[1]] or left not in range(self.tale[0]):
            return "no"
        runs = [run for run in self.tale[1] if run[:3] != (start, goal, left)]
        if match[4]:
            runs.append((start, goal, left, int(match[4])))
        return self.keep(self.net, (self.tale[0], runs, self.tale[2]))

    def say_ask(self, row):
        try:
            spec, rest = self.sentence(row.split(" ")[1:])
        except NoSentence:
            return "what"
        if rest:
            return "what"
        return "yes" if build(spec).holds(self.net, self.tale) else "no"

    def sentence(self, words):
        """The sentence with which the words begin, and the words behind it."""
        text = " ".join(words)
        match = re.match(rf"came ([a-z]{{1,12}}) by {N}(?: |\Z)", text)
        if match:
            return ("came", match[1], int(match[2])), words[4:]
        match = re.match(r"came ([a-z]{1,12})(?: |\Z)", text)
        if match:
            return ("came", match[1]), words[2:]
        match = re.match(f"{N} at {N} knows ", text)
        if match and self.are_houses([match[1]]) and int(match[2]) <= self.tale[0]:
            inside, rest = self.sentence(words[4:])
            return ("knows", int(match[1]), int(match[2]), inside), rest
        match = re.match(f"all((?: {N})+) at {N} share ", text)
        if match and self.are_houses(match[1].split()) and int(match[3]) <= self.tale[0]:
            houses = tuple(map(int, match[1].split()))
            inside, rest = self.sentence(words[len(houses) + 4:])
            return ("shared", houses, int(match[3]), inside), rest
        if words[:1] == ["("]:
            one, rest = self.sentence(words[1:])
            if rest[:1] in (["and"], ["or"]):
                other, behind = self.sentence(rest[1:])
                if behind[:1] == [")"]:
                    return ("both" if rest[0] == "and" else "either", one, other), behind[1:]
        raise NoSentence(text)

    def are_houses(self, words):
        return len(set(words)) == len(words) and all(int(word) < self.net[0] for word in words)

    def say_act(self, row):
        match = re.fullmatch(f"act ([a-z]{{1,12}})((?: {N})+)", row)
        if not match or not self.are_houses(match[2].split()):
            return "what"
        for turn in range(self.tale[0] + 1):
            if Shared(list(map(int, match[2].split())), turn, Came(match[1])).holds(self.net, self.tale):
                return str(turn)
        return "never"

    def say_row(self, row):
        match = re.fullmatch(f"row ([a-z]{{1,12}})((?: {N})+)", row)
        if not match or not self.are_houses(match[2].split()):
            return "what"
        turns = row_of(self.net, self.tale, match[1], list(map(int, match[2].split())))
        return " ".join("-" if turn is None else str(turn) for turn in turns)

    def say_sure(self, row):
        match = re.fullmatch(f"sure {N}((?: {N})+)", row)
        if not match or not self.are_houses([match[1]]) or not self.are_houses(match[2].split()):
            return "what"
        times = [by_trying(self.net, int(match[1]), int(word), lambda most: most) for word in match[2].split()]
        return "never" if None in times else str(max(times))


def written(spec):
    """The words of a sentence."""
    kind = spec[0]
    if kind == "came":
        return f"came {spec[1]}" if len(spec) == 2 else f"came {spec[1]} by {spec[2]}"
    if kind in ("both", "either"):
        return f"( {written(spec[1])} {'and' if kind == 'both' else 'or'} {written(spec[2])} )"
    if kind == "knows":
        return f"{spec[1]} at {spec[2]} knows {written(spec[3])}"
    return f"all {' '.join(map(str, spec[1]))} at {spec[2]} share {written(spec[3])}"


class Desks(unittest.TestCase):
    def desk(self, *rows):
        """A desk to which these were said, each of them answered ok."""
        desk = Desk()
        self.says(desk, *[(row, "ok") for row in rows])
        return desk

    def says(self, desk, *rows):
        for row, expected in rows:
            told = desk.say(row)
            self.assertIs(str, type(told))
            self.assertEqual(expected, told, row)

    def all_what(self, desk, *rows):
        self.says(desk, *[(row, "what") for row in rows])


class Beginning(Desks):
    def test_one_house_no_paths_last_turn_0_no_signs(self):
        self.says(Desk(), ("sure 0 0", "0"), ("sure 0 1", "what"), ("sure 1 0", "what"))
        self.says(Desk(), ("path 0 1 1", "no"), ("path 1 0 -", "no"), ("late 0 0 0 1", "no"))
        self.says(Desk(), ("ask 0 at 0 knows came a", "no"), ("ask 0 at 1 knows came a", "what"), ("act a 0", "never"))
        self.says(Desk(), ("sign 0 0 a", "ok"), ("sign 0 1 a", "no"), ("sign 1 0 a", "no"), ("row a 0", "0"))

    def test_two_desks_know_nothing_of_one_another(self):
        one, other = Desk(), Desk()
        for row in FIRE_ROWS:
            self.says(one, (row, "ok"))
            self.says(other, ("sure 0 1", "what"), ("act fire 0", "never"), ("ask 0 at 1 knows came fire", "what"))
        third = Desk()
        self.says(other, ("net 2", "ok"), ("turns 3", "ok"), ("sign 1 2 fire", "ok"))
        self.says(one, ("act fire 1 2", "4"), ("sure 0 1 2", "3"))
        self.says(other, ("act fire 1 0", "never"), ("act fire 1", "2"), ("sure 0 1", "never"))
        self.says(third, ("ask came fire", "no"), ("net 1", "ok"), ("ask came fire", "no"))
        self.says(one, ("row fire 0 1 2", "1 2 3"))


class Nets(Desks):
    def test_net(self):
        for houses in range(1, 9):
            desk = self.desk(f"net {houses}")
            self.says(desk, (f"sure 0 {houses - 1}", "0" if houses == 1 else "never"), (f"sure 0 {houses}", "what"))
        self.says(Desk(), ("net 0", "no"), ("net 9", "no"), ("net 10", "no"), (f"net {LONG}", "no"))
        self.all_what(Desk(), "net", "net ", "net 1 ", "net 1 1", "net x", "net -", "net -1", "net +1", "net 01",
                      "net 1.0")

    def test_a_good_net_begins_anew(self):
        desk = self.desk(*FIRE_ROWS)
        self.says(desk, ("net 3", "ok"), ("ask came fire", "no"), ("sure 0 1", "never"), ("path 0 1 5", "ok"))
        self.says(desk, ("ask 0 at 0 knows came fire", "no"), ("ask 0 at 1 knows came fire", "what"))
        self.says(desk, ("sure 0 1", "5"), ("net 1", "ok"), ("sure 0 1", "what"))

    def test_no_and_what_change_nothing(self):
        desk = self.desk(*FIRE_ROWS)
        for row in ("net 0", "net 9", "net 01", "net", "path 0 1 4", "path 0 0 1", "path 1 2 0", "path 1 2 00",
                    "turns 61", "turns 06", "turns", "sign 0 1 fire", "sign 3 1 fire", "sign 0 7 fire",
                    "sign 0 1 Fire",
                    "late 0 1 1 4", "late 0 1 1 -", "late 0 1 6 7", "late 1 2 0 1", "late 0 1 0 0", "late 0 1 0 01"):
            self.assertIn(desk.say(row), ("no", "what"), row)
            self.says(desk, ("row fire 0 1 2", "1 2 3"), ("act fire 2 1", "4"), ("sure 0 1 2", "3"),
                      ("ask 1 at 2 knows 0 at 6 knows came fire", "yes"), ("ask came fire by 0", "no"),
                      ("sure 1 2", "never"), ("act fire 0 1 2", "4"), ("ask 0 at 7 knows came fire", "what"))

    def test_path(self):
        desk = self.desk("net 3", "path 0 1 2", "path 1 0 -", f"path 1 2 {LONG}")
        self.says(desk, ("sure 0 1", "2"), ("sure 1 0", "never"), ("sure 1 2", LONG), ("sure 0 2", str(GREATEST + 2)))
        self.says(desk, ("path 0 1 2", "no"), ("path 0 1 3", "no"), ("path 1 0 1", "no"), ("path 0 1 -", "no"))
        self.says(desk, ("path 0 0 1", "no"), ("path 2 2 -", "no"), ("path 0 3 1", "no"), ("path 3 0 -", "no"))
        self.says(desk, ("path 2 0 0", "no"), (f"path {LONG} 0 1", "no"), ("path 9 9 0", "no"), ("sure 2 0", "never"))
        self.says(desk, ("path 2 0 1", "ok"), ("sure 2 0", "1"))

    def test_path_that_is_none(self):
        desk = self.desk("net 3")
        self.all_what(desk, "path", "path 0", "path 0 1", "path 0 1 2 3", "path - 1 2", "path 0 - 2", "path 0 1 --",
                      "path 0 1 x", "path 0 1 -1", "path 0 1 00", "path 0 1 02", "path 00 1 2", "path 0 01 2",
                      "path a 1 2", f"path 0 1 1{LONG}", f"path 1{LONG} 1 2", "path 0 1 2 ", " path 0 1 2",
                      "path 0  1 2", "path 0 1  2", "paths 0 1 2", "Path 0 1 2")
        self.says(desk, ("sure 0 1", "never"), ("path 0 1 2", "ok"))

    def test_what_ahead_of_no(self):
        desk = self.desk(*FIRE_ROWS)
        self.all_what(desk, "net 9 9", "net 9 ", "path 0 0 x", "path 9 9 00", "path 9 9 -1", "path 0 1 0 0",
                      "turns 61 1", "turns 61 ", "sign 9 9", "sign 9 x fire", "sign x 9 fire", "sign 9 9 FIRE x",
                      "sign 9 9 FIRE ", "sign 09 9 FIRE", "late 9 9 9 x", "late 9 9 9 9 9", "late 9 9 09 9",
                      "late 0 0 0 +1", "late 9 9 9")

    def test_a_good_path_begins_the_tale_anew(self):
        desk = self.desk(*FIRE_ROWS)
        self.says(desk, ("path 1 2 1", "ok"), ("ask came fire", "no"), ("ask 0 at 1 knows came fire", "what"))
        self.says(desk, ("late 0 1 0 1", "no"), ("sign 0 1 fire", "no"), ("sign 0 0 fire", "ok"), ("turns 1", "ok"))
        self.says(desk, ("ask came fire", "no"), ("late 0 1 0 1", "ok"), ("sure 0 2", "3"))


class Turns(Desks):
    def test_turns(self):
        desk = self.desk("net 2", "path 0 1 3", "path 1 0 -")
        for last in (0, 1, 2, 59, 60, 7):
            self.says(desk, (f"turns {last}", "ok"), (f"ask 0 at {last} knows came a", "no"),
                      (f"ask 0 at {last + 1} knows came a", "what"))
        self.says(desk, ("turns 61", "no"), (f"turns {LONG}", "no"), ("turns 1000000", "no"))
        self.all_what(desk, "turns", "turns x", "turns -", "turns -1", "turns 07", "turns 00", f"turns 1{LONG}",
                      "turns 7 7", "turn 7")
        self.says(desk, ("ask 0 at 7 knows came a", "no"), ("ask 0 at 8 knows came a", "what"))

    def test_the_fastest_tale_without_signs(self):
        desk = self.desk("net 2", "path 0 1 3", "path 1 0 -", "turns 6", "sign 0 0 a", "late 0 1 0 3",
                         "late 0 1 1 4", "late 1 0 3 -")
        self.says(desk, ("row a 0 1", "0 3"), ("turns 6", "ok"), ("ask came a", "no"), ("sign 0 0 a", "ok"))
        self.says(desk, ("row a 0 1", "0 1"), ("row a 1 0", "1 2"), ("act a 0 1", "3"), ("act a 1", "1"))
        self.says(desk, ("late 0 1 0 1", "ok"), ("row a 0 1", "0 1"))


class Signs(Desks):
    def test_signs(self):
        desk = self.desk("net 2", "turns 5", "sign 0 0 a", "sign 1 5 a", "sign 0 0 b", "sign 0 1 a")
        self.says(desk, ("sign 0 0 a", "no"), ("sign 2 0 a", "no"), ("sign 0 6 a", "no"), (f"sign {LONG} 0 a", "no"))
        self.says(desk, (f"sign 0 {LONG} a", "no"), ("ask came a by 0", "yes"), ("ask came c", "no"), ("row a 1", "5"))
        self.all_what(desk, "sign", "sign 0", "sign 0 0", "sign 0 0 ", "sign 0 0 c d", "sign 0 0  c", "sign - 0 c",
                      "sign 0 - c", "sign a 0 0", "sign 00 0 c", "sign 0 00 c", f"sign 1{LONG} 0 c",
                      f"sign 0 1{LONG} c",
                      "sign 0 0 c ", " sign 0 0 c", "signs 0 0 c", "sign c 0 0")
        self.says(desk, ("ask came c", "no"), ("ask came d", "no"))

    def test_names(self):
        desk = self.desk("net 1")
        for name in ("a", "z", "az", "abcdefghijkl", "mnopqrstuvwx", "zzzzzzzzzzzz", "sign", "by", "and", "ask"):
            self.says(desk, (f"ask came {name}", "no"), (f"sign 0 0 {name}", "ok"), (f"ask came {name}", "yes"),
                      (f"act {name} 0", "0"), (f"row {name} 0", "0"))
        for name in ("abcdefghijklm", "A", "aB", "a1", "1", "0", "-", "a-b", "a_b", "a.", "(", ")", "~", "`", "{", "@",
                     "[", "a" * 100):
            self.says(desk, (f"sign 0 0 {name}", "no"), (f"ask came {name}", "what"), (f"act {name} 0", "what"),
                      (f"row {name} 0", "what"), (f"ask came {name} by 0", "what"))

    def test_the_fortieth_and_the_forty_first(self):
        desk = self.desk("net 2", "turns 60")
        for number in range(40):
            self.says(desk, (f"ask came a by {number}", "no" if number == 0 else "yes"),
                      (f"sign {number % 2} {number} a", "ok"), (f"sign {number % 2} {number} a", "no"))
        self.says(desk, ("sign 0 50 a", "no"), ("sign 0 0 b", "no"), ("sign 1 50 bb", "no"), ("ask came b", "no"))
        self.says(desk, ("sign 0 0 b x", "what"), ("sign x 0 b", "what"), ("ask came a by 0", "yes"))
        self.says(desk, ("turns 60", "ok"), ("ask came a", "no"), ("sign 0 50 a", "ok"))


class Lates(Desks):
    def test_late(self):
        desk = self.desk("net 2", "path 0 1 3", "path 1 0 -", "turns 6", "sign 0 0 a", "late 0 1 0 3")
        self.says(desk, ("row a 1", "2"), ("late 0 1 1 4", "ok"), ("row a 1", "3"), ("late 0 1 1 5", "no"))
        self.says(desk, ("late 0 1 0 -", "no"), ("late 0 1 3 -", "no"), ("late 0 1 4 -", "ok"), ("late 0 1 5 -", "ok"))
        self.says(desk, ("late 0 1 2 -", "no"), ("row a 1", "3"))

    def test_said_again_otherwise(self):
        desk = self.desk("net 2", "path 0 1 -", "turns 3", "sign 0 0 a", "late 0 1 1 -", "late 0 1 2 -")
        for come, expected in (("3", "3"), ("2", "2"), ("-", "-"), ("-", "-"), ("1", "1"), ("1", "1"), ("3", "3")):
            self.says(desk, (f"late 0 1 0 {come}", "ok"), ("row a 1", expected))
        for come in ("0", "4", "60", LONG):
            self.says(desk, (f"late 0 1 0 {come}", "no"), ("row a 1", "3"))
        self.says(desk, ("late 0 1 1 2", "ok"), ("row a 1", "2"), ("late 0 1 0 -", "ok"), ("row a 1", "2"))
        self.says(desk, ("late 0 1 1 -", "ok"), ("row a 1", "-"), ("late 0 1 2 3", "ok"), ("row a 1", "3"))

    def test_no_path_or_left_is_no_turn_ahead_of_last(self):
        desk = self.desk("net 3", "path 0 1 -", "path 1 2 9", "turns 4")
        for come in ("-", "3", "4", "5"):
            self.says(desk, (f"late 1 0 0 {come}", "no"), (f"late 0 0 0 {come}", "no"), (f"late 0 2 0 {come}", "no"))
            self.says(desk, (f"late 0 3 0 {come}", "no"), (f"late 3 0 0 {come}", "no"), (f"late 0 1 4 {come}", "no"))
            self.says(desk, (f"late 0 1 5 {come}", "no"), (f"late 0 1 {LONG} {come}", "no"),
                      (f"late {LONG} 1 0 {come}", "no"), (f"late 1 2 4 {come}", "no"))
        self.says(desk, ("late 0 1 3 -", "ok"), ("late 0 1 3 4", "ok"), ("late 0 1 0 4", "ok"), ("late 1 2 0 -", "ok"))
        self.says(desk, ("turns 0", "ok"), ("late 0 1 0 -", "no"), ("late 0 1 0 1", "no"), ("late 1 2 0 -", "no"))

    def test_just_at_the_most(self):
        for most in range(1, 6):
            desk = self.desk("net 2", f"path 0 1 {most}", "turns 4")
            for left in range(4):
                for come in range(7):
                    good = left < come <= min(left + most, 4)
                    self.says(desk, (f"late 0 1 {left} {come}", "ok" if good else "no"))
                self.says(desk, (f"late 0 1 {left} -", "ok" if left + most > 4 else "no"))

    def test_that_is_none(self):
        desk = self.desk("net 2", "path 0 1 -", "turns 4", "sign 0 0 a")
        self.all_what(desk, "late", "late 0", "late 0 1", "late 0 1 0", "late 0 1 0 2 3", "late - 1 0 2",
                      "late 0 - 0 2",
                      "late 0 1 - 2", "late 0 1 0 --", "late 0 1 0 x", "late 0 1 0 02", "late 0 1 00 2",
                      "late 0 1 0 -2",
                      f"late 0 1 0 1{LONG}", f"late 0 1 1{LONG} 2", "late 0 1 0 2 ", " late 0 1 0 2", "late 0 1 0  2",
                      "late 0 1 0 never", "lates 0 1 0 2")
        self.says(desk, ("row a 1", "1"))


class Asks(Desks):
    def test_each_kind(self):
        desk = self.desk(*FIRE_ROWS)
        for row, expected in (
                ("came fire", "yes"), ("came flood", "no"), ("came fire by 1", "yes"), ("came fire by 0", "no"),
                (f"came fire by {LONG}", "yes"), ("( came fire and came fire )", "yes"),
                ("( came fire and came flood )", "no"), ("( came flood and came fire )", "no"),
                ("( came flood or came fire )", "yes"), ("( came fire or came flood )", "yes"),
                ("( came flood or came f )", "no"), ("0 at 0 knows came fire", "no"), ("0 at 1 knows came fire",
                                                                                       "yes"),
                ("1 at 1 knows came fire", "no"), ("1 at 2 knows came fire", "yes"),
                ("1 at 2 knows 2 at 4 knows came fire", "yes"), ("1 at 2 knows 2 at 3 knows came fire", "no"),
                ("all 1 2 at 4 share came fire", "yes"), ("all 1 2 at 3 share came fire", "no"),
                ("all 2 0 1 at 4 share came fire by 1", "yes"), ("all 0 at 1 share came fire", "yes"),
                ("0 at 6 knows ( came fire and 1 at 3 knows came fire )", "yes"),
                ("( all 0 1 at 3 share came fire and ( came flood or 2 at 2 knows came fire ) )", "yes")):
            self.says(desk, ("ask " + row, expected))

    def test_that_are_none(self):
        desk = self.desk(*FIRE_ROWS)
        for row in ("", "came", "came fire by", "came fire by x", "came fire by -", "came fire by -1",
                    "came fire by 01",
                    f"came fire by 1{LONG}", "came fire 1", "came fire at 1", "came Fire", "came fire came fire",
                    "fire",
                    "came fire by 1 by 1", "came fire and came fire", "( came fire )", "( came fire and )",
                    "( and came fire )", "( came fire and came fire", "came fire )", "( came fire and came fire ) )",
                    "( came fire nor came fire )", "( came fire and came fire or came fire )",
                    "(came fire and came fire)",
                    "( came fire AND came fire )", "()", "( )", "(", ")", "0 at 1 knows", "0 at knows came fire",
                    "0 at 1 know came fire", "0 at 1 came fire", "at 1 knows came fire", "0 1 knows came fire",
                    "3 at 1 knows came fire", "0 at 7 knows came fire", "00 at 1 knows came fire",
                    "0 at 01 knows came fire",
                    f"0 at {LONG} knows came fire", f"{LONG} at 0 knows came fire", "0 1 at 1 knows came fire",
                    "all at 1 share came fire", "all 0 0 at 1 share came fire", "all 0 1 0 at 1 share came fire",
                    "all 0 3 at 1 share came fire", "all 0 1 at 7 share came fire", "all 0 1 at 1 shares came fire",
                    "all 0 1 at 1 share", "all 0 1 at 1 knows came fire", "all 0 x at 1 share came fire",
                    "all 0 1 share came fire", "all 0 01 at 1 share came fire", "0 at 1 share came fire", "all",
                    "0 at 1 knows all 1 2 at 9 share came fire", "( came flood and 0 at 9 knows came fire )",
                    "( came fire or came FIRE )", "came fire by 1 )", "all 0 1 2 3 at 1 share came fire"):
            self.says(desk, ("ask " + row, "what"))
        self.all_what(desk, "ask", "came fire", "ask  came fire", "ask came  fire", "ask came fire ", " ask came fire",
                      "ask ask came fire", "Ask came fire")

    def test_words_of_the_rows_as_names(self):
        desk = self.desk("net 1", "turns 4")
        words = ("by", "and", "or", "came", "at", "knows", "all", "share", "ask", "net", "sign", "late", "never",
                 "what")
        for place, word in enumerate(words):
            self.says(desk, (f"ask came {word}", "no"), (f"sign 0 {place % 4} {word}", "ok"), (f"ask came {word}",
                                                                                               "yes"))
        self.says(desk, ("ask came by by 0", "yes"), ("ask came by by", "what"), ("ask came by 3", "what"),
                  ("ask came and by 0", "no"), ("ask came and by 1", "yes"), ("ask came and and", "what"))
        self.says(desk, ("ask ( came and and came and )", "yes"), ("ask ( came or or came or )", "yes"),
                  ("ask ( came by by 3 and came by by 3 )", "yes"), ("ask ( came by and came by )", "yes"))
        self.says(desk, ("ask ( came and or came x )", "yes"), ("ask ( came and came by )", "what"),
                  ("ask ( came x or came and )", "yes"), ("ask 0 at 0 knows came knows", "no"),
                  ("ask 0 at 4 knows came all", "yes"), ("ask all 0 at 4 share came share by 3", "yes"))
        self.says(desk, ("act by 0", "0"), ("row at 0", "0"), ("act all 0", "2"), ("row and 0", "1"), ("ask came )",
                                                                                                       "what"))

    def test_twenty_deep_and_forty_parts(self):
        throw = dice(77)
        desk, model = self.desk(*FIRE_ROWS[:-1]), Model()
        for row in FIRE_ROWS[:-1]:
            model.say(row)
        for row in ("sign 0 1 a", "sign 1 0 b", "late 0 1 1 3", "late 1 0 3 -"):
            self.says(desk, (row, "ok"))
            model.say(row)
        told = set()
        for lap in range(40):
            row = "ask " + written(deep_spec(throw, model.net, 6))
            self.assertLess(len(row), 2000)
            self.says(desk, (row, model.say(row)), (row + " )", "what"), (row[:-1], model.say(row[:-1])))
            told.add(desk.say(row))
        self.assertEqual({"yes", "no"}, told)

    def test_deeper_than_any_sentence(self):
        desk = self.desk("net 1", "sign 0 0 a")
        for many in (20, 21, 40, 90):
            row = "ask " + "( " * many + "came a" + " or came b )" * many
            self.says(desk, (row, "yes"), (row[:-2], "what"), (row + " )", "what"))
            self.says(desk, ("ask " + "0 at 0 knows " * many + "came a", "yes"))
            self.says(desk, ("ask " + "all 0 at 0 share " * many + "came b", "no"))
        self.all_what(desk, "ask " + "( " * 997 + "(", "ask" + " 0 at 0 knows" * 153, "ask " + "( " * 995 + "came a",
                      "ask" + " )" * 998, "ask" + " (" * 990 + " came a )", "( " * 999 + "(")
        self.says(desk, ("ask came a", "yes"))


class OtherQuestions(Desks):
    def test_act(self):
        desk = self.desk(*FIRE_ROWS)
        self.says(desk, ("act fire 1 2", "4"), ("act fire 2 1", "4"), ("act fire 0", "1"), ("act fire 0 1", "3"),
                  ("act fire 1", "2"), ("act fire 0 1 2", "4"), ("act flood 0", "never"), ("act flood 0 1 2", "never"))
        self.says(desk, ("turns 3", "ok"), ("sign 0 1 fire", "ok"), ("act fire 1 2", "never"), ("act fire 1 0", "3"))

    def test_row(self):
        desk = self.desk(*FIRE_ROWS)
        self.says(desk, ("row fire 0 1 2", "1 2 3"), ("row fire 2 1", "2 4"), ("row fire 1 2", "2 3"),
                  ("row fire 0", "1"))
        self.says(desk, ("row flood 0", "-"), ("row flood 0 1 2", "- - -"), ("late 0 1 1 3", "ok"))
        self.says(desk, ("row fire 1 2", "3 3"), ("late 0 2 1 4", "ok"), ("row fire 0 1 2", "1 3 3"),
                  ("late 0 2 2 5", "ok"), ("row fire 0 1 2", "1 3 4"))
        self.says(desk, ("net 3", "ok"), ("path 0 1 -", "ok"), ("turns 5", "ok"), ("sign 0 0 a", "ok"),
                  ("row a 0 1 2", "0 1 -"), ("row a 1 0 2", "1 - -"), ("row a 2 1 0", "- - -"))

    def test_sure(self):
        desk = self.desk("net 4", "path 0 1 2", "path 1 2 3", "path 0 2 9", "path 2 3 -")
        self.says(desk, ("sure 0 1", "2"), ("sure 0 1 2", "5"), ("sure 0 2 1 0", "5"), ("sure 0 0", "0"),
                  ("sure 0 3", "never"), ("sure 0 1 3", "never"), ("sure 3 3", "0"), ("sure 1 0", "never"))
        rows = [f"path {house} {house + 1} {LONG}" for house in range(7)]
        self.says(self.desk("net 8", *rows), ("sure 0 7", str(7 * GREATEST)), ("sure 0 1 0", LONG))

    def test_that_are_none(self):
        desk = self.desk(*FIRE_ROWS)
        for kind in ("act", "row"):
            self.all_what(desk, kind, f"{kind} fire", f"{kind} 0 1", f"{kind} fire fire 0", f"{kind} fire 0 0",
                          f"{kind} fire 0 1 0", f"{kind} fire 3", f"{kind} fire 0 3", f"{kind} fire {LONG}",
                          f"{kind} fire 00", f"{kind} fire 0 01", f"{kind} fire -", f"{kind} fire 0 x",
                          f"{kind} Fire 0",
                          f"{kind} firefirefiref 0", f"{kind} fire 0 ", f"{kind}  fire 0", f" {kind} fire 0",
                          f"{kind} fire  0", f"{kind} fire 0  1", f"{kind}s fire 0", f"{kind} fire 0 1 2 3")
        self.all_what(desk, "sure", "sure 0", "sure 0 1 1", "sure 0 3", "sure 3 0", "sure 3 3", "sure 0 x", "sure x 0",
                      "sure 0 01", "sure 00 1", "sure - 1", "sure 0 -", "sure 0 1 ", "sure  0 1", "sure 0  1",
                      " sure 0 1",
                      f"sure 0 {LONG}", f"sure {LONG} 0", "sure 0 1 2 0 0", "sure fire 0 1")


class Words(Desks):
    ROWS = ["net 3", "path 0 1 2", "path 1 0 -", "turns 5", "sign 0 1 fire", "late 1 0 2 -", "late 0 1 1 3",
            "ask came fire", "ask came fire by 3", "ask ( came fire and came fire )", "ask ( came fire or came a )",
            "ask 0 at 1 knows came fire", "ask all 0 1 at 3 share came fire", "act fire 0 1", "row fire 0 1",
            "sure 0 1 0"]

    def pair(self):
        """A desk and a model to which the first rows were said."""
        pair = (Desk(), Model())
        for row in self.ROWS[:7]:
            for asked in pair:
                self.assertEqual("ok", asked.say(row), row)
        return pair

    def test_empty_rows_and_others(self):
        self.all_what(self.pair()[0], "", " ", "  ", "net", "what", "ok", "no", "hello", "0", "-", "(", "came fire",
                      "~",
                      "!", "`", "quit", "help", "turn 3", "NET 3", "net3", "Desk", "tell", "say net 3", " " * 2000)

    def test_a_blank_too_many(self):
        desk, model = self.pair()
        for row in self.ROWS:
            for place in range(len(row) + 1):
                if place in (0, len(row)) or row[place] == " ":
                    self.says(desk, (row[:place] + " " + row[place:], "what"))
            for place, sign in enumerate(row):
                if sign == " ":
                    told = model.say(row[:place] + row[place + 1:])
                    self.assertEqual(told, desk.say(row[:place] + row[place + 1:]), row)
        self.assertEqual(self.all_answers(model), self.all_answers(desk))

    def all_answers(self, asked):
        return [asked.say(row) for row in self.ROWS[7:] + ["ask 0 at 5 knows came fire", "sure 1 0", "row fire 1 0"]]

    def test_words_left_out_and_said_twice(self):
        desk, model = self.pair()
        for row in self.ROWS:
            words = row.split(" ")
            for place in range(len(words)):
                for said in (words[:place] + words[place + 1:], words[:place] + [words[place]] + words[place:]):
                    self.assertEqual(model.say(" ".join(said)), desk.say(" ".join(said)), said)

    def test_numbers(self):
        for number in ("0", "1", "2", "00", "01", "10", "+1", "-0", "-1", "1.0", "1e1", "0x1", "1_0", "1,0", "one",
                       "1a",
                       "a1", "--", "-", "0-", LONG, "1" + LONG, "0" + LONG, "0" * 60, "0" * 61, "1" * 59, "1" * 61,
                       "'1'"):
            desk, model = self.pair()
            for row in self.ROWS:
                words = row.split(" ")
                for place in range(1, len(words)):
                    said = " ".join(words[:place] + [number] + words[place + 1:])
                    self.assertEqual(model.say(said), desk.say(said), said)

    def test_signs_of_all_kinds(self):
        for sign in SIGNS:
            desk, model = self.pair()
            for row in self.ROWS:
                for place in range(0, len(row) + 1):
                    for said in (row[:place] + sign + row[place:], row[:place] + sign + row[place + 1:]):
                        if not said.startswith("net"):
                            self.assertEqual(model.say(said), desk.say(said), said)
            self.assertEqual(self.all_answers(model), self.all_answers(desk))

    def test_rows_of_two_thousand_signs(self):
        throw = dice(6)
        desk, model = self.pair()
        for lap in range(30):
            said = "".join(SIGNS[throw(len(SIGNS))] for sign in range(2000))
            for row in (said, "ask " + said[4:], "sign 0 0 " + said[9:].replace(" ", "a"), "net " + said[4:]):
                self.assertEqual(model.say(row), desk.say(row), row)
        self.says(desk, ("sign 0 0 " + "a" * 1991, "no"), ("ask came " + "a" * 1991, "what"), ("net " + "1" * 1996,
                                                                                               "what"))


class Talks(Desks):
    """Long talks with a desk, held against the model row by row."""

    def number(self, throw, most):
        odd = throw(40)
        if odd == 0:
            return ("-", "00", "01", "x", "-1", "+1", "1" * 61, "1.0", "0" * 60)[throw(9)]
        return LONG if odd == 1 else str(throw(most + 1))

    def name(self, throw):
        return ("B", "a1", "abcdefghijklm", "-")[throw(4)] if not throw(30) else "abc"[throw(3)]

    def houses(self, throw, model):
        return " ".join(self.number(throw, model.net[0] - 1) for house in range(throw(4) + (throw(9) > 0)))

    def row(self, throw, model, lap):
        """A net and its paths first of all, then turns; later on those are said again now and then alone."""
        if throw(25) == 0:
            lap = throw(10)
        if lap == 0:
            return f"net {self.number(throw, 9) if throw(2) else 3}"
        houses = model.net[0]
        if lap < 8:
            most = "-" if throw(4) == 0 else self.number(throw, 3)
            return f"path {self.number(throw, houses - 1)} {self.number(throw, houses)} {most}"
        if lap < 10:
            return f"turns {self.number(throw, 7) if throw(2) else 6}"
        return self.later_row(throw, model, throw(30))

    def later_row(self, throw, model, kind):
        houses, last = model.net[0], model.tale[0]
        if kind < 6:
            return f"sign {self.number(throw, houses - (throw(5) > 0))} {self.number(throw, last)} {self.name(throw)}"
        if kind < 14:
            start, goal = model.net[1][throw(len(model.net[1]))][:2] if model.net[1] else (0, 1)
            come = "-" if throw(3) == 0 else self.number(throw, last + 1)
            return f"late {start} {goal} {self.number(throw, last)} {come}"
        if kind < 21:
            return "ask " + self.sentence(throw, model)
        if kind < 28:
            return f"{('act', 'row')[throw(2)]} {self.name(throw)} {self.houses(throw, model)}"
        return f"sure {self.number(throw, houses - 1)} {self.houses(throw, model)}"

    def sentence(self, throw, model):
        spec = some_spec(throw, model.net, model.tale[0], 1 + throw(5))
        return "came a" if "base" in repr(spec) else written(spec)

    def spoiled(self, throw, row):
        """A row with a sign more, less or otherwise."""
        place = throw(len(row) + 1)
        sign = SIGNS[throw(len(SIGNS))]
        return row[:place] + ("", sign, sign)[throw(3)] + row[place + throw(2):]

    def test_talks(self):
        answers = {}
        for seed in range(60):
            throw = dice(seed + 1000)
            desk, model = Desk(), Model()
            for lap in range(120):
                row = self.row(throw, model, lap)
                if not throw(12):
                    row = self.spoiled(throw, row)
                told = model.say(row)
                self.says(desk, (row, told))
                kind = row.split(" ")[0]
                answers.setdefault(kind, set()).add(told)
        for kind in ("net", "path", "turns", "sign", "late"):
            self.assertEqual({"ok", "no", "what"}, answers[kind], kind)
        self.assertEqual({"yes", "no", "what"}, answers["ask"])
        self.assertLessEqual({"what", "never", "0", "1", "2", "3"}, answers["act"])
        self.assertLessEqual({"what", "never", "0", "1", "2", "3"}, answers["sure"])
        self.assertLess(20, len(answers["row"]))

    def test_asked_again_the_same(self):
        throw = dice(4)
        desk, model = self.desk(*FIRE_ROWS), Model()
        for row in FIRE_ROWS:
            model.say(row)
        rows = ["ask " + self.sentence(throw, model) for row in range(30)]
        rows += [f"{kind} {name} {houses}" for kind in ("act", "row") for name in ("fire", "flood")
                 for houses in ("0", "1 0", "2 1")]
        told = [desk.say(row) for row in rows]
        for lap in range(3):
            self.assertEqual(told[::-1], [desk.say(row) for row in rows[::-1]])


if __name__ == "__main__":
    unittest.main()

"""What several test files need."""

import copy
import itertools

from hearsay.errors import HearError, NoNet, NoPath, OutOfTime, TooLate, Twice
from hearsay.sentences import Both, Came, Either, Knows, Sentence, Shared
from hearsay.tales import check_tale

REFUSALS = (NoNet, NoPath, OutOfTime, Twice, TooLate)

# The greatest and the least number of sixty figures.
GREATEST = 10 ** 60 - 1
LEAST = -GREATEST

# Two houses that promise one another nothing.
LOOSE = (2, [(0, 1, None), (1, 0, None)])

# Runners to house 1 take two turns at the most, those to house 2 three; back to 0 nothing is promised. All come late.
FIRE_NET = (3, [(0, 1, 2), (0, 2, 3), (1, 0, None), (2, 0, None)])
FIRE = (6, [(0, 1, 0, 2), (0, 1, 1, 3), (0, 1, 2, 4), (0, 1, 3, 5), (0, 1, 4, 6),
            (0, 2, 0, 3), (0, 2, 1, 4), (0, 2, 2, 5), (0, 2, 3, 6)], [(0, 1, "fire")])


def refusal(ask, *handed):
    """The very class with which a call refuses; None where it gives back None."""
    try:
        answer = ask(*handed)
    except HearError as error:
        return type(error)
    if answer is not None:
        raise AssertionError(f"gave back {answer!r}")
    return None


def leaves_alone(test, ask, *handed):
    """Checks that a call, refused or not, changes nothing that is handed in, and gives back its answer."""
    before = copy.deepcopy(handed)
    try:
        return ask(*handed)
    except HearError:
        return None
    finally:
        test.assertEqual(before, handed)


def is_own(test, ask, *handed):
    """Checks that a list that was told, changed by the asker, changes nothing that is told later."""
    first = ask(*handed)
    kept = list(first)
    first.append("mine")
    first[0] = "mine"
    second = ask(*handed)
    test.assertEqual(kept, second)
    second.clear()
    test.assertEqual(kept, ask(*handed))


def by_trying(net, house, goal, cost):
    """The least cost over all ways that meet no house twice; None where there is none."""
    best = None
    others = [other for other in range(net[0]) if other not in (house, goal)]
    costs = {path[:2]: cost(path[2]) for path in net[1] if cost(path[2]) is not None}
    if house == goal:
        return 0
    for many in range(len(others) + 1):
        for between in itertools.permutations(others, many):
            way = (house,) + between + (goal,)
            steps = list(zip(way, way[1:]))
            if all(step in costs for step in steps):
                total = sum(costs[step] for step in steps)
                best = total if best is None else min(best, total)
    return best


def due_runs(net, last):
    """For each path with a most the runs that come as late as they may."""
    runs = []
    for start, goal, most in net[1]:
        if most is not None:
            left = 0
            while left + most <= last:
                runs.append((start, goal, left, left + most))
                left += 1
    return runs


def is_good(net, tale):
    return refusal(check_tale, net, tale) is None


def shape(value):
    """A value with all that it holds, the values of its objects too, as it is at this time."""
    if isinstance(value, (list, tuple)):
        return (type(value).__name__, [shape(part) for part in value])
    if hasattr(value, "__dict__"):
        return (type(value).__name__, [(key, shape(part)) for key, part in sorted(vars(value).items())])
    return value


def spoil(value):
    """Changes every list within a value."""
    if isinstance(value, (list, tuple)):
        for part in list(value):
            spoil(part)
    if isinstance(value, list):
        value.reverse()
        value.append("mine")
        value[0] = "mine"


def keeps_to_itself(test, ask, *handed):
    """Checks that a call changes nothing handed in, tells the same again, and that what it told is the asker's own."""
    before = shape(handed)
    first = ask(*handed)
    told = copy.deepcopy(first)
    test.assertEqual(before, shape(handed))
    test.assertEqual(told, ask(*handed))
    spoil(first)
    test.assertEqual(before, shape(handed))
    test.assertEqual(told, ask(*handed))
    return told


def dice(seed):
    """Throws that are the same at each run of the tests: throw(n) is one of 0 to n - 1."""
    state = [seed * 7919 + 12345]

    def throw(sides):
        state[0] = (state[0] * 6364136223846793005 + 1442695040888963407) % 2 ** 64
        return (state[0] >> 33) % sides
    return throw


def some_net(throw, houses, mosts):
    """A net of so many houses, each path there or not, with one of these mosts."""
    paths = [(start, goal, mosts[throw(len(mosts))]) for start in range(houses) for goal in range(houses)
             if start != goal and throw(3)]
    return (houses, paths)


def some_tale(throw, net, last, signs):
    """A good tale with at most so many signs; runs and signs in no order."""
    runs = []
    for start, goal, most in net[1]:
        for left in range(last):
            latest = last + 3 if most is None else left + most
            come = left + 1 + throw(min(latest - left, 9))
            if come <= last:
                runs.append((throw(1000), (start, goal, left, come)))
    told = {(throw(net[0]), throw(last + 1), "abc"[throw(3)]): True for sign in range(signs)}
    return (last, [run for place, run in sorted(runs)], list(told))


def larger_tales(seed, mosts, signs):
    """Some nets of three to eight houses with these mosts, each with a good tale, up to last 60."""
    for houses, last in ((3, 9), (4, 12), (8, 7), (5, 30), (8, 60)):
        throw = dice(seed + houses * last)
        net = some_net(throw, houses, mosts)
        yield net, some_tale(throw, net, last, signs)


def comes(path, left, last):
    """When a runner may come in a good tale; None where he may not have come."""
    start, goal, most = path
    if most is not None and left + most <= last:
        return list(range(left + 1, left + most + 1))
    return list(range(left + 1, last + 1)) + [None]


def all_tales(net, last, signs):
    """Each good tale of the net with this last turn whose signs are some of these."""
    runners = [(path, left) for path in net[1] for left in range(last)]
    for come in itertools.product(*[comes(path, left, last) for path, left in runners]):
        runs = [path[:2] + (left, at) for (path, left), at in zip(runners, come) if at is not None]
        for many in range(len(signs) + 1):
            for some in itertools.combinations(signs, many):
                yield (last, list(runs), list(some))


def hearing(net, tale):
    """Point 8 over again: for each spot the set of all spots that it hears."""
    last, runs, signs = tale
    came = {}
    for start, goal, left, come in runs:
        came.setdefault((goal, come), []).append((start, left))
    heard = {}
    for turn in range(last + 1):
        for house in range(net[0]):
            own = {(house, turn)}
            # Runners that came earlier are among what the turn before hears.
            own.update(heard.get((house, turn - 1), ()))
            for spot in came.get((house, turn), ()):
                own.update(heard[spot])
            heard[(house, turn)] = own
    return heard


def seen_of(tale, spot, heard):
    """Point 9 over again, from the set of the spots that are heard."""
    runs = sorted(run for run in tale[1] if (run[1], run[3]) in heard)
    return (spot, runs, sorted(sign for sign in tale[2] if sign[:2] in heard))


def slowest_of(net, view, last):
    """Point 10 over again, word by word."""
    spot, runs, signs = view
    told = [run[:3] for run in runs]
    return (last, sorted(runs + [run for run in due_runs(net, last) if run[:3] not in told]), signs)


def all_spots(net, last):
    return [(house, turn) for house in range(net[0]) for turn in range(last + 1)]


class World:
    """All good tales of a small net with one last turn and some of these signs, and what looks the same in them."""

    def __init__(self, net, last, signs):
        self.net = net
        self.last = last
        self.tales = list(all_tales(net, last, signs))
        self.heard = [hearing(net, tale) for tale in self.tales]
        self.groups = {spot: self.looking_the_same(spot) for spot in all_spots(net, last)}

    def view(self, place, spot):
        return seen_of(self.tales[place], spot, self.heard[place][spot])

    def looking_the_same(self, spot):
        """The places of the tales, in lists of those that look the same to the spot."""
        groups = {}
        for place in range(len(self.tales)):
            groups.setdefault(repr(self.view(place, spot)), []).append(place)
        return list(groups.values())

    def by_steps(self, houses, turn):
        """The places of the tales, in lists of those to which one comes from one another by steps."""
        leader = list(range(len(self.tales)))

        def lead(place):
            while leader[place] != place:
                leader[place] = leader[leader[place]]
                place = leader[place]
            return place
        for house in houses:
            for group in self.groups[(house, turn)]:
                for place in group:
                    leader[lead(place)] = lead(group[0])
        joined = {}
        for place in range(len(self.tales)):
            joined.setdefault(lead(place), []).append(place)
        return list(joined.values())

    def where(self, spec):
        """The places of the tales in which a sentence holds, by point 11 without the slowest and the common tale."""
        kind = spec[0]
        if kind == "base":
            return set()
        if kind == "came":
            return {place for place, tale in enumerate(self.tales) if sign_came(tale, *spec[1:])}
        if kind == "sign":
            return {place for place, tale in enumerate(self.tales) if spec[1] in tale[2]}
        if kind == "both":
            return self.where(spec[1]) & self.where(spec[2])
        if kind == "either":
            return self.where(spec[1]) | self.where(spec[2])
        inside = self.where(spec[3])
        groups = self.groups[(spec[1], spec[2])] if kind == "knows" else self.by_steps(spec[1], spec[2])
        return {place for group in groups if inside.issuperset(group) for place in group}


def some_places(world, number):
    """The places of some sixty tales of a world, others for another number."""
    step = max(1, len(world.tales) // 60)
    return range(number % step, len(world.tales), step)


def sign_came(tale, name, by=None):
    return any(sign[2] == name and (by is None or sign[1] <= by) for sign in tale[2])


def nested(spots, inside):
    """That the first spot knows that the next one knows and so on."""
    for house, turn in reversed(spots):
        inside = ("knows", house, turn, inside)
    return inside


def build(spec):
    """The sentence of a row like ("knows", 0, 2, ("came", "a"))."""
    kind = spec[0]
    if kind == "base":
        return Sentence()
    if kind == "came":
        return Came(*spec[1:])
    if kind == "both":
        return Both(build(spec[1]), build(spec[2]))
    if kind == "either":
        return Either(build(spec[1]), build(spec[2]))
    if kind == "knows":
        return Knows(spec[1], spec[2], build(spec[3]))
    return Shared(list(spec[1]), spec[2], build(spec[3]))


def row_of(net, tale, name, houses):
    """Point 16 over again, by the sentences at each turn."""
    turns = []
    for many in range(1, len(houses) + 1):
        told = None
        for turn in range(tale[0], -1, -1):
            sentence = Came(name)
            for house in houses[:many]:
                sentence = Knows(house, turn, sentence)
            if sentence.holds(net, tale):
                told = turn
        turns.append(told)
    return turns


def some_houses(throw, houses):
    chosen = [house for house in range(houses) if throw(2)] or [throw(houses)]
    return tuple(chosen if throw(2) else chosen[::-1])


def some_spec(throw, net, last, deep):
    """A sentence of parts that are at most so deep within one another."""
    kind = throw(9) if deep > 1 else 0
    if kind == 0:
        return ("came", "abc"[throw(3)]) if throw(2) else ("came", "abc"[throw(3)], throw(last + 2) - 1)
    inner = [some_spec(throw, net, last, deep - 1)]
    if kind < 4:
        return ("knows", throw(net[0]), throw(last + 1)) + tuple(inner)
    if kind < 6:
        return ("shared", some_houses(throw, net[0]), throw(last + 1)) + tuple(inner)
    if kind == 6 and deep > 2 and not throw(4):
        return ("base",)
    inner.append(some_spec(throw, net, last, deep - 1))
    return ("both" if kind == 7 else "either",) + tuple(inner)


# Two houses that are never sure of one another; two that are, one of them at once; three with paths of all kinds.
LOOSE_WORLD = (LOOSE, 3, [(0, 0, "a"), (1, 2, "b")])
SURE_WORLD = ((2, [(0, 1, 2), (1, 0, 1)]), 4, [(0, 0, "a"), (1, 1, "a"), (0, 2, "b")])
WIDE_WORLD = ((3, [(1, 2, None), (0, 1, 1), (2, 0, 3), (0, 2, 2)]), 2, [(0, 0, "a"), (2, 1, "b")])
ALONE_WORLD = ((2, []), 2, [(0, 0, "a"), (0, 2, "b"), (1, 1, "a"), (1, 1, "c")])
WORLDS = [LOOSE_WORLD, SURE_WORLD, WIDE_WORLD, ALONE_WORLD]


def looks_same(net, one, other, spot):
    """Point 9 over again: whether two tales look the same to a spot."""
    return seen_of(one, spot, hearing(net, one)[spot]) == seen_of(other, spot, hearing(net, other)[spot])


def house_lists(houses):
    """Each list of unlike houses in ascending order."""
    for many in range(1, houses + 1):
        yield from itertools.combinations(range(houses), many)


def plain_specs(net, last):
    """Each kind of sentence about a sign a and a sign b, and all kinds within all others, with many spots."""
    came = [("came", "a"), ("came", "b"), ("came", "a", 0)]
    spots = all_spots(net, last)
    knows = [("knows", house, turn, came[turn % 3]) for house, turn in spots]
    shared = [("shared", houses, turn, came[turn % 2]) for houses in house_lists(net[0]) for turn in range(last + 1)]
    plain = came + [("base",)] + knows + shared
    for place, spec in enumerate(knows + shared):
        house, turn = spots[(place * 5 + 3) % len(spots)]
        plain.append(("knows", house, turn, spec))
        plain.append(("shared", (house, (house + 1) % net[0]), turn, spec))
        plain.append(("both", came[place % 3], spec))
        plain.append(("either", spec, ("knows", house, turn, came[1])))
        plain.append(("knows", house, last, ("either", spec, came[1])))
    return plain


def deep_spec(throw, net, last):
    """Forty parts, twenty deep: nine times over what is known or shared of that or of something else."""
    spec = ("either", ("came", "a"), ("came", "b"))
    for lap in range(9):
        other = ("knows", throw(net[0]), throw(last + 1), ("came", "abc"[throw(3)]))
        if lap == 8:
            other = ("knows", throw(net[0]), last, other)
        spec = ("both" if lap == 4 else "either", spec, other)
        if throw(3):
            spec = ("knows", throw(net[0]), max(throw(last + 1), throw(last + 1)), spec)
        else:
            spec = ("shared", some_houses(throw, net[0]), last, spec)
    return spec

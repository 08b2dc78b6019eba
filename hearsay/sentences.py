"""Sentences about tales: whether they hold, and what shows that they don't.

A slower tale has fewer signs and lets less be heard, and no sentence holds in a slower tale that doesn't in a faster
one. So of all the tales that look the same to a spot the slowest one alone is asked.
"""

from hearsay.looks import slowed


class Sentence:
    def holds(self, net, tale):
        return self.doubt(net, tale) is None

    def doubt(self, net, tale):
        return ("no", "")


class Came(Sentence):
    def __init__(self, name, by=None):
        self.name = name
        self.by = by

    def doubt(self, net, tale):
        for house, turn, name in tale[2]:
            if name == self.name and (self.by is None or turn <= self.by):
                return None
        return ("no", self.name)


class Both(Sentence):
    def __init__(self, one, other):
        self.one = one
        self.other = other

    def doubt(self, net, tale):
        first = self.one.doubt(net, tale)
        if first is not None:
            return ("first", first)
        second = self.other.doubt(net, tale)
        return None if second is None else ("second", second)


class Either(Sentence):
    def __init__(self, one, other):
        self.one = one
        self.other = other

    def doubt(self, net, tale):
        first = self.one.doubt(net, tale)
        if first is None:
            return None
        second = self.other.doubt(net, tale)
        return None if second is None else ("neither", first, second)


class Knows(Sentence):
    def __init__(self, house, turn, inside):
        self.house = house
        self.turn = turn
        self.inside = inside

    def doubt(self, net, tale):
        slow = slowed(net, tale, (self.house, self.turn))
        inner = self.inside.doubt(net, slow)
        return None if inner is None else ("may", slow, inner)


class Shared(Sentence):
    def __init__(self, houses, turn, inside):
        self.houses = list(houses)
        self.turn = turn
        self.inside = inside

    def doubt(self, net, tale):
        steps = common_steps(net, tale, self.houses, self.turn)
        inner = self.inside.doubt(net, end_of(steps, tale))
        return None if inner is None else ("row", steps, inner)


def common(net, tale, houses, turn):
    return end_of(common_steps(net, tale, houses, turn), ordered(tale))


def common_steps(net, tale, houses, turn):
    """The steps (house, tale) from a tale to its common one, those alone that change it."""
    steps = []
    current = ordered(tale)
    place = 0
    same_for = 0
    while same_for < len(houses):
        house = houses[place]
        slow = slowed(net, current, (house, turn))
        if slow == current:
            same_for += 1
        else:
            steps.append((house, slow))
            current = slow
            # For the house itself the slowest tale doesn't change again.
            same_for = 1
        place = (place + 1) % len(houses)
    return steps


def end_of(steps, tale):
    return steps[-1][1] if steps else tale


def ordered(tale):
    return (tale[0], sorted(tale[1]), sorted(tale[2]))

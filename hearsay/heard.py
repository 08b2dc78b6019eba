"""What is heard: spots are tuples (house, turn), and a trail is a list of a tale's runs from one spot to another."""


def heard_by(net, tale, spot):
    return [best[0] for best in walk_back(net, tale, spot)]


def trail(net, tale, one, other):
    bests = walk_back(net, tale, other)
    house = one[0]
    if bests[house][0] < one[1]:
        return None
    runs = []
    # Each best run comes no later than the next one leaves, so this gets on in time until it is there.
    while house != other[0]:
        run = bests[house][1]
        runs.append(run)
        house = run[1]
    return runs


def walk_back(net, tale, spot):
    """At each house's place its last turn that the spot hears, and the run of the trail that leaves there then."""
    bests = [(-1, None)] * net[0]
    bests[spot[0]] = (spot[1], None)
    # What a run brings came ahead of the run itself: from the latest one back, one walk finds all that is heard.
    for start, goal, left, come in sorted(tale[1], key=come_of, reverse=True):
        if come <= bests[goal][0] and left > bests[start][0]:
            bests[start] = (left, (start, goal, left, come))
    return bests


def first_hearing(tale, firsts):
    """At each house's place the first turn at which it hears one of the spots that firsts has at theirs, or None."""
    turns = list(firsts)
    # What a run takes along was there ahead of the run's end: from the earliest one on, one walk finds all who hear.
    for start, goal, left, come in sorted(tale[1], key=come_of):
        if turns[start] is not None and turns[start] <= left and (turns[goal] is None or come < turns[goal]):
            turns[goal] = come
    return turns


def come_of(run):
    return run[3]

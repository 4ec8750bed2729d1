"""Walks: their places and end, and the walks that come from a walk."""

from squarewalk.errors import BadNumber, BadWalk, NotClosed

# Each step is a quarter to the left of the one ahead of it here.
LEFTWARD = "nwse"

MIRROR = {"n": "n", "e": "w", "s": "s", "w": "e"}


# The refusals' words show nothing of what was handed in: it may be of any kind, also one that can't be shown.
def check_walk(walk):
    if not isinstance(walk, str):
        raise BadWalk("a walk is a text")
    for letter in walk:
        if letter not in LEFTWARD:
            raise BadWalk("a walk has the letters n, e, s and w alone")


# Python counts True and False among the whole numbers, the document doesn't.
def is_number(value):
    return isinstance(value, int) and not isinstance(value, bool)


def check_number(number):
    if not is_number(number):
        raise BadNumber("a whole number is asked for")


def is_pair(value):
    return isinstance(value, tuple) and len(value) == 2 and is_number(value[0]) and is_number(value[1])


# What is no walk has no end either: end refuses it, so BadWalk goes first.
def is_closed(walk):
    return end(walk) == (0, 0)


def check_closed(walk):
    if not is_closed(walk):
        raise NotClosed("the walk doesn't end where it began")


def stepped(place, step):
    if step == "n":
        return (place[0], place[1] + 1)
    if step == "e":
        return (place[0] + 1, place[1])
    if step == "s":
        return (place[0], place[1] - 1)
    return (place[0] - 1, place[1])


def places(walk):
    check_walk(walk)
    place = (0, 0)
    told = [place]
    for step in walk:
        place = stepped(place, step)
        told.append(place)
    return told


# A closed walk with steps comes back to its beginning at the last moment: that is no second coming.
def counted_places(walk):
    told = places(walk)
    if len(walk) > 0 and told[-1] == told[0]:
        told.pop()
    return told


def end(walk):
    check_walk(walk)
    return (walk.count("e") - walk.count("w"), walk.count("n") - walk.count("s"))


def turned(step, quarters):
    return LEFTWARD[(LEFTWARD.index(step) + quarters) % 4]


def taken_back(step):
    return turned(step, 2)


def quartered(walk, by):
    check_walk(walk)
    check_number(by)
    # A very great number is made small once, not at each step.
    quarters = by % 4
    return "".join([turned(step, quarters) for step in walk])


def mirrored(walk):
    check_walk(walk)
    return "".join([MIRROR[step] for step in walk])


def backwards(walk):
    check_walk(walk)
    return "".join([taken_back(step) for step in reversed(walk)])


def thinned(walk):
    check_walk(walk)
    # What is kept is thinned at all times, so only its last step can be taken back by the one that comes.
    kept = []
    for step in walk:
        if len(kept) > 0 and step == taken_back(kept[-1]):
            kept.pop()
        else:
            kept.append(step)
    return "".join(kept)


def begun(walk, by):
    check_closed(walk)
    check_number(by)
    # The walk of no steps has nothing to go on by, and there is no rest by 0.
    if len(walk) == 0:
        return ""
    first = by % len(walk)
    return walk[first:] + walk[:first]

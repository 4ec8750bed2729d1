"""What several test files ask with: walks, and things that are none."""

import fractions
import functools
import itertools
import random
import unittest

LETTERS = "nesw"
LEFT = {"n": "w", "w": "s", "s": "e", "e": "n"}
OPPOSITE = {"n": "s", "s": "n", "e": "w", "w": "e"}
MOVES = {"n": (0, 1), "e": (1, 0), "s": (0, -1), "w": (-1, 0)}


class Asked(unittest.TestCase):
    def refused(self, refusal, function, *handed_in):
        with self.assertRaises(Exception) as caught:
            function(*handed_in)
        self.assertIs(type(caught.exception), refusal)


class Unshowable:
    """It can't be shown, and says that it equals everything."""

    def __repr__(self):
        raise RuntimeError("not to be shown")

    __str__ = __repr__

    def __eq__(self, other):
        return True

    def __hash__(self):
        raise RuntimeError("not to be hashed")


class LikeText:
    """It has a text's ways, and is none."""

    def __iter__(self):
        return iter("nesw")

    def __len__(self):
        return 4

    def __getitem__(self, key):
        return "nesw"[key]

    def count(self, letter):
        return 1


class LikeNumber:
    """It can stand where a whole number stands, and is none."""

    def __index__(self):
        return 1

    def __int__(self):
        return 1

    def __mod__(self, other):
        return 1


def endless():
    """A list that holds itself."""
    told = []
    told.append(told)
    return told


# Beyond what Python turns into a text: an error's words that show it would fail.
GREAT = 10 ** 6000

NO_TEXTS = [
    0, 1, -1, 4, GREAT, 1.5, float("nan"), 1j, None, True, False, ..., NotImplemented,
    [], ["n"], ["n", "e", "s", "w"], (), ("n",), ("n", "s"), {}, {"n": "s"}, {"n": 1}, {"n"}, frozenset("nesw"),
    b"", b"nesw", bytearray(b"nesw"), iter("nesw"), range(4), object(), str, len,
    Unshowable(), LikeText(), endless(), [Unshowable()],
]

NO_WALK_TEXTS = [
    "N", "E", "S", "W", "NESW", "nesW", "Nesw", "neSw", "x", "nx", "xn", "nxs", "north", "nesw ", " nesw", "n s", " ",
    "n\n", "\n", "\t", "n\0s", "n,s", "0", "1", "\u00f1", "n\u0301", "\uff4e", "\u0455", "\ud800", "nes\u200bw",
    "n" * 5000 + "x", "x" + "n" * 5000,
]

NO_WALKS = NO_TEXTS + NO_WALK_TEXTS

NO_NUMBERS = [
    True, False, None, 0.0, 1.0, 1.5, float("nan"), float("inf"), 1j, fractions.Fraction(1), ...,
    "", "0", "1", "n", b"1", [], [1], (), (1,), {}, {1: 1}, {1}, range(1), object(), int, len,
    Unshowable(), LikeNumber(), endless(),
]

NO_PAIRS = [
    [0, 0], [(0, 0)], [0], "00", "(0, 0)", "ne", "", 0, 1, GREAT, 0.0, None, True, False, ..., b"00",
    {}, {0: 0}, {0, 1}, frozenset((0, 1)), range(2), iter((0, 0)), object(), tuple, len,
    Unshowable(), LikeText(), LikeNumber(), endless(),
    (), (0,), (0, 0, 0), (0, 0, 0, 0), ((0, 0),), ((0, 0), (0, 0)), ((0, 0), 1), ((0,), (0,)), ([0], [0]),
] + [(number, 0) for number in NO_NUMBERS] + [(0, number) for number in NO_NUMBERS] + [
    (number, number) for number in NO_NUMBERS]

NUMBERS = [0, 1, 2, 3, 4, 5, 7, 8, -1, -2, -3, -4, -5, -8, 1001, -1001, 2 ** 64, 2 ** 64 + 1, -2 ** 64 - 1,
           GREAT, GREAT + 1, GREAT + 2, GREAT + 3, -GREAT, -GREAT - 1, -GREAT + 1]


def walks_up_to(length):
    told = []
    for steps in range(length + 1):
        told.extend("".join(letters) for letters in itertools.product(LETTERS, repeat=steps))
    return told


def places_step_by_step(walk):
    x, y = 0, 0
    told = [(x, y)]
    for letter in walk:
        x, y = x + MOVES[letter][0], y + MOVES[letter][1]
        told.append((x, y))
    return told


SHORT = walks_up_to(5)
CLOSED = [walk for walk in walks_up_to(6) if places_step_by_step(walk)[-1] == (0, 0)]
OPEN = [walk for walk in SHORT if places_step_by_step(walk)[-1] != (0, 0)]
LONG = ["n" * 50000, "ne" * 30000, "nesw" * 20000, "nnneesw" * 7000, "n" * 40000 + "s" * 40000,
        "e" * 9999 + "n" * 9999 + "w" * 9999 + "s" * 9999]


@functools.cache
def closed_up_to(length):
    return [walk for walk in walks_up_to(length) if places_step_by_step(walk)[-1] == (0, 0)]


@functools.cache
def loops_up_to(length):
    """All loops of so many steps or fewer, found by going on from walks that come to no place twice."""
    told = []
    waiting = [("", [(0, 0)])]
    while waiting:
        walk, gone = waiting.pop()
        for letter in LETTERS if len(walk) < length else "":
            place = (gone[-1][0] + MOVES[letter][0], gone[-1][1] + MOVES[letter][1])
            if place == (0, 0) and len(walk) >= 3:
                told.append(walk + letter)
            elif place not in gone and abs(place[0]) + abs(place[1]) <= length - len(walk) - 1:
                waiting.append((walk + letter, gone + [place]))
    return told


def outline(cells):
    """The loop around these squares, which are to its left; they hang together and touch nowhere at a corner alone."""
    steps = {}
    for x, y in cells:
        for letter, beside, begin in (("e", (x, y - 1), (x, y)), ("n", (x + 1, y), (x + 1, y)),
                                      ("w", (x, y + 1), (x + 1, y + 1)), ("s", (x - 1, y), (x, y + 1))):
            if beside not in cells:
                assert begin not in steps
                steps[begin] = letter
    first = place = min(steps)
    walk = ""
    while walk == "" or place != first:
        letter = steps.pop(place)
        walk += letter
        place = (place[0] + MOVES[letter][0], place[1] + MOVES[letter][1])
    assert not steps
    return walk


def branched(knots, seed):
    """The outline of a tree that is grown over every other square, so that no two of its branches touch."""
    chance = random.Random(seed)
    cells = {(0, 0)}
    grown = [(0, 0)]
    while len(grown) < knots:
        x, y = chance.choice(grown)
        a, b = MOVES[chance.choice(LETTERS)]
        if (x + 2 * a, y + 2 * b) not in cells:
            cells.update([(x + a, y + b), (x + 2 * a, y + 2 * b)])
            grown.append((x + 2 * a, y + 2 * b))
    return outline(cells)


def widened(walk, by):
    return "".join(letter * by for letter in walk)


# The last one goes around a hollow of places that aren't within it: its mouth is one square wide.
BRANCHED = [branched(knots, seed) for knots, seed in ((2, 1), (5, 2), (9, 3), (20, 4), (40, 5))]
HOLLOW = outline({(x, y) for x in range(7) for y in range(7)}
                 - {(x, y) for x in range(2, 5) for y in range(2, 5)} - {(3, 0), (3, 1)})
LARGE_LOOPS = BRANCHED + [widened(walk, 2) for walk in BRANCHED] + [widened(walk, 3) for walk in BRANCHED] + [
    HOLLOW, widened(HOLLOW, 2), "e" * 30 + "n" * 20 + "w" * 30 + "s" * 20, "eenneennwwwwssss"]


def shown(value):
    """A value's name for a subtest: its kind, and itself where it is a short text."""
    if isinstance(value, str) and len(value) < 40:
        return repr(value)
    return type(value).__name__

"""What several test files ask with: walks, and things that are none."""

import fractions
import itertools

LETTERS = "nesw"
OPPOSITE = {"n": "s", "s": "n", "e": "w", "w": "e"}
MOVES = {"n": (0, 1), "e": (1, 0), "s": (0, -1), "w": (-1, 0)}


class Unshowable:
    """It can't be shown, and says that it equals everything."""

    def __repr__(self):
        raise RuntimeError("not to be shown")

    __str__ = __repr__

    def __eq__(self, other):
        return True

    def __hash__(self):
        raise RuntimeError("not to be hashed")


class LikeText:
    """It has a text's ways, and is none."""

    def __iter__(self):
        return iter("nesw")

    def __len__(self):
        return 4

    def __getitem__(self, key):
        return "nesw"[key]

    def count(self, letter):
        return 1


class LikeNumber:
    """It can stand where a whole number stands, and is none."""

    def __index__(self):
        return 1

    def __int__(self):
        return 1

    def __mod__(self, other):
        return 1


def endless():
    """A list that holds itself."""
    told = []
    told.append(told)
    return told


# Beyond what Python turns into a text: an error's words that show it would fail.
GREAT = 10 ** 6000

NO_TEXTS = [
    0, 1, -1, 4, GREAT, 1.5, float("nan"), 1j, None, True, False, ..., NotImplemented,
    [], ["n"], ["n", "e", "s", "w"], (), ("n",), ("n", "s"), {}, {"n": "s"}, {"n": 1}, {"n"}, frozenset("nesw"),
    b"", b"nesw", bytearray(b"nesw"), iter("nesw"), range(4), object(), str, len,
    Unshowable(), LikeText(), endless(), [Unshowable()],
]

NO_WALK_TEXTS = [
    "N", "E", "S", "W", "NESW", "nesW", "Nesw", "neSw", "x", "nx", "xn", "nxs", "north", "nesw ", " nesw", "n s", " ",
    "n\n", "\n", "\t", "n\0s", "n,s", "0", "1", "\u00f1", "n\u0301", "\uff4e", "\u0455", "\ud800", "nes\u200bw",
    "n" * 5000 + "x", "x" + "n" * 5000,
]

NO_WALKS = NO_TEXTS + NO_WALK_TEXTS

NO_NUMBERS = [
    True, False, None, 0.0, 1.0, 1.5, float("nan"), float("inf"), 1j, fractions.Fraction(1), ...,
    "", "0", "1", "n", b"1", [], [1], (), (1,), {}, {1: 1}, {1}, range(1), object(), int, len,
    Unshowable(), LikeNumber(), endless(),
]

NUMBERS = [0, 1, 2, 3, 4, 5, 7, 8, -1, -2, -3, -4, -5, -8, 1001, -1001, 2 ** 64, 2 ** 64 + 1, -2 ** 64 - 1,
           GREAT, GREAT + 1, GREAT + 2, GREAT + 3, -GREAT, -GREAT - 1, -GREAT + 1]


def walks_up_to(length):
    told = []
    for steps in range(length + 1):
        told.extend("".join(letters) for letters in itertools.product(LETTERS, repeat=steps))
    return told


def places_step_by_step(walk):
    x, y = 0, 0
    told = [(x, y)]
    for letter in walk:
        x, y = x + MOVES[letter][0], y + MOVES[letter][1]
        told.append((x, y))
    return told


SHORT = walks_up_to(5)
CLOSED = [walk for walk in walks_up_to(6) if places_step_by_step(walk)[-1] == (0, 0)]
OPEN = [walk for walk in SHORT if places_step_by_step(walk)[-1] != (0, 0)]
LONG = ["n" * 50000, "ne" * 30000, "nesw" * 20000, "nnneesw" * 7000, "n" * 40000 + "s" * 40000,
        "e" * 9999 + "n" * 9999 + "w" * 9999 + "s" * 9999]


def shown(value):
    """A value's name for a subtest: its kind, and itself where it is a short text."""
    if isinstance(value, str) and len(value) < 40:
        return repr(value)
    return type(value).__name__

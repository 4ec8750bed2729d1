import copy
import unittest

from samples import (BRANCHED, CLOSED, GREAT, LARGE_LOOPS, NO_PAIRS, NO_WALKS, OPEN, SHORT, Asked, closed_up_to,
                     loops_up_to, places_step_by_step, shown)
from squarewalk.areas import area, around, between, squares
from squarewalk.errors import BadNumber, BadWalk, NotClosed
from squarewalk.walks import backwards, begun, end, mirrored, places, quartered

LEFTWARD = "enws"
RIGHTWARD = "nesw"
EIGHT = "enws" + "swne"
DOUBLE = "enws" * 2
NO_AREA = ["ns", "sn", "ew", "we", "nnss", "nsew", "eennsswwnsns", "nesw" + "enws", "neswwsen"]
LONG_OPEN = ["n" * 50000, "ne" * 30000, "nesw" * 20000 + "e"]
LONG_CLOSED = ["e" * 9999 + "n" * 9999 + "w" * 9999 + "s" * 9999, "nesw" * 20000, "n" * 40000 + "s" * 40000,
               "en" * 9999 + "ws" * 9999]
SAMPLES = closed_up_to(8) + LARGE_LOOPS + NO_AREA + [EIGHT, DOUBLE]


def around_by_the_words(walk, square):
    """Point [5], word by word."""
    x, y = square
    gone = places_step_by_step(walk)
    north = [k for k, step in enumerate(walk) if step == "n" and gone[k][0] > x and gone[k] == (gone[k][0], y)]
    south = [k for k, step in enumerate(walk) if step == "s" and gone[k][0] > x and gone[k] == (gone[k][0], y + 1)]
    return len(north) - len(south)


def around_from_the_north(walk, square):
    """The same number, found to the north of the square: steps west less steps east."""
    x, y = square
    gone = places_step_by_step(walk)
    west = [k for k, step in enumerate(walk) if step == "w" and gone[k][1] > y and gone[k + 1][0] == x]
    east = [k for k, step in enumerate(walk) if step == "e" and gone[k][1] > y and gone[k][0] == x]
    return len(west) - len(east)


def squares_about(walk):
    """All squares between a walk's outermost places, and one more to each side."""
    gone = places_step_by_step(walk)
    xs, ys = [x for x, y in gone], [y for x, y in gone]
    return [(x, y) for x in range(min(xs) - 2, max(xs) + 2) for y in range(min(ys) - 2, max(ys) + 2)]


class Area(Asked):
    def test_to_the_left_and_to_the_right(self):
        self.assertEqual(area(LEFTWARD), 1)
        self.assertEqual(area(RIGHTWARD), -1)
        self.assertEqual(area("eennwwss"), 4)
        self.assertEqual(area("nneessww"), -4)
        self.assertEqual(area("eeenwwws"), 3)
        self.assertEqual(area("wwwnnneeesss"), -9)

    def test_no_steps_and_no_area(self):
        self.assertEqual(area(""), 0)
        for walk in NO_AREA:
            self.assertEqual(area(walk), 0)

    def test_eight(self):
        self.assertEqual(area("enws" + "swne"), 0)
        self.assertEqual(area("enws" + "wsen"), 2)
        self.assertEqual(area("eennwwss" + "swne"), 3)
        self.assertEqual(area("nesw" + "swne"), -2)

    def test_around_twice(self):
        self.assertEqual(area(DOUBLE), 2)
        self.assertEqual(area("nesw" * 3), -3)
        self.assertEqual(area("eennwwss" + "enws"), 5)

    def test_all_squares_together(self):
        for walk in SAMPLES:
            self.assertEqual(area(walk), sum(around_by_the_words(walk, square) for square in squares_about(walk)))

    def test_its_squares_numbers_together(self):
        for walk in SAMPLES:
            self.assertEqual(area(walk), sum(times for square, times in squares(walk)))

    def test_long_walks(self):
        side = 9999
        self.assertEqual(area("e" * side + "n" * side + "w" * side + "s" * side), side * side)
        self.assertEqual(area("n" * side + "e" * side + "s" * side + "w" * side), -side * side)
        self.assertEqual(area("nesw" * 20000), -20000)
        self.assertEqual(area("n" * 40000 + "s" * 40000), 0)
        self.assertEqual(area("en" * side + "ws" * side), side)
        self.assertEqual(area("e" * side + "ne" * side + "w" * (2 * side) + "s" * side),
                         side * side + side * (side - 1) // 2)

    def test_turned_mirrored_backwards_and_begun_elsewhere(self):
        for walk in SAMPLES + LONG_CLOSED:
            told = area(walk)
            self.assertEqual([area(quartered(walk, by)) for by in (1, 2, 3)], [told, told, told])
            self.assertEqual(area(mirrored(walk)), -told)
            self.assertEqual(area(backwards(walk)), -told)
            self.assertEqual([area(begun(walk, by)) for by in (1, 2, -1)], [told, told, told])

    def test_kinds(self):
        for walk in ("", "ns", LEFTWARD, RIGHTWARD):
            self.assertIs(type(area(walk)), int)


class Around(Asked):
    def test_to_the_left_and_to_the_right(self):
        self.assertEqual(around(LEFTWARD, (0, 0)), 1)
        self.assertEqual(around(RIGHTWARD, (0, 0)), -1)
        self.assertEqual(around("wsen", (-1, -1)), 1)
        self.assertEqual(around("swne", (-1, -1)), -1)
        self.assertEqual(around("wnes", (-1, 0)), -1)
        self.assertEqual(around("senw", (0, -1)), 1)

    def test_squares_that_are_not_gone_around(self):
        for square in ((1, 0), (-1, 0), (0, 1), (0, -1), (1, 1), (-1, -1), (-5, 0), (5, 0), (0, 5), (0, -5)):
            self.assertEqual(around(LEFTWARD, square), 0)
            self.assertEqual(around(RIGHTWARD, square), 0)

    def test_far_away(self):
        for walk in (LEFTWARD, RIGHTWARD, EIGHT, DOUBLE, ""):
            for far in (1000, 10 ** 20, GREAT):
                for square in ((far, 0), (-far, 0), (0, far), (0, -far), (far, far), (-far, -far), (far, -far)):
                    self.assertEqual(around(walk, square), 0)

    def test_no_steps_and_no_area(self):
        for walk in ["", "ns", "ew", "nnss", "nesw" + "enws"]:
            for square in squares_about(walk):
                self.assertEqual(around(walk, square), 0)
        self.assertEqual(around("nesw" + "wsen", (0, 0)), -1)
        self.assertEqual(around("nesw" + "wsen", (-1, -1)), 1)

    def test_eight(self):
        self.assertEqual(around(EIGHT, (0, 0)), 1)
        self.assertEqual(around(EIGHT, (-1, -1)), -1)
        self.assertEqual(around(EIGHT, (-1, 0)), 0)
        self.assertEqual(around(EIGHT, (0, -1)), 0)

    def test_around_twice(self):
        self.assertEqual(around(DOUBLE, (0, 0)), 2)
        self.assertEqual(around("nesw" * 3, (0, 0)), -3)
        self.assertEqual(around("eennwwss" + "enws", (0, 0)), 2)
        self.assertEqual(around("eennwwss" + "enws", (1, 1)), 1)
        self.assertEqual(around("eennwwss" + "nesw", (0, 0)), 0)

    def test_by_the_words_and_from_the_north(self):
        for walk in SAMPLES:
            if len(walk) > 60:
                continue
            for square in squares_about(walk):
                told = around(walk, square)
                self.assertEqual(told, around_by_the_words(walk, square))
                self.assertEqual(told, around_from_the_north(walk, square))

    def test_long_walks(self):
        side = 9999
        walk = "e" * side + "n" * side + "w" * side + "s" * side
        for square in ((0, 0), (side - 1, 0), (0, side - 1), (side - 1, side - 1), (5000, 77)):
            self.assertEqual(around(walk, square), 1)
            self.assertEqual(around(backwards(walk), square), -1)
        for square in ((-1, 0), (0, -1), (side, 0), (0, side), (side, side), (-1, -1)):
            self.assertEqual(around(walk, square), 0)
        self.assertEqual(around("nesw" * 20000, (0, 0)), -20000)
        self.assertEqual(around("nesw" * 20000, (1, 0)), 0)

    def test_turned_mirrored_backwards_and_begun_elsewhere(self):
        for walk in CLOSED + BRANCHED[:3] + [EIGHT, DOUBLE]:
            for x, y in squares_about(walk)[::3]:
                told = around(walk, (x, y))
                self.assertEqual(around(quartered(walk, 1), (-y - 1, x)), told)
                self.assertEqual(around(quartered(walk, 2), (-x - 1, -y - 1)), told)
                self.assertEqual(around(mirrored(walk), (-x - 1, y)), -told)
                self.assertEqual(around(backwards(walk), (x, y)), -told)
                for by in (1, 3):
                    a, b = places(walk)[by % max(len(walk), 1)]
                    self.assertEqual(around(begun(walk, by), (x - a, y - b)), told)

    def test_kinds(self):
        for square in ((0, 0), (5, 5)):
            for walk in ("", "ns", LEFTWARD, RIGHTWARD):
                self.assertIs(type(around(walk, square)), int)

    def test_what_is_no_pair_is_refused(self):
        for square in NO_PAIRS:
            with self.subTest(shown(square)):
                for walk in ("", "ns", LEFTWARD):
                    self.refused(BadNumber, around, walk, square)

    def test_a_list_is_refused_and_not_changed(self):
        square = [0, 0]
        self.refused(BadNumber, around, LEFTWARD, square)
        self.assertEqual(square, [0, 0])

    def test_not_closed_goes_ahead_of_the_square(self):
        for square in NO_PAIRS + [(0, 0)]:
            with self.subTest(shown(square)):
                self.refused(NotClosed, around, "n", square)
                self.refused(NotClosed, around, "enw", square)

    def test_bad_walk_goes_ahead_of_all(self):
        for walk in NO_WALKS:
            for square in ((0, 0), [0, 0], (0, True), (0,), None, "00", (0, 0, 0)):
                with self.subTest(shown(walk), square=shown(square)):
                    self.refused(BadWalk, around, walk, square)


class Squares(Asked):
    def test_to_the_left_and_to_the_right(self):
        self.assertEqual(squares(LEFTWARD), [((0, 0), 1)])
        self.assertEqual(squares(RIGHTWARD), [((0, 0), -1)])
        self.assertEqual(squares("eennwwss"), [((0, 0), 1), ((0, 1), 1), ((1, 0), 1), ((1, 1), 1)])
        self.assertEqual(squares("wwsseenn"), [((-2, -2), 1), ((-2, -1), 1), ((-1, -2), 1), ((-1, -1), 1)])
        self.assertEqual(squares("eeenwwws"), [((0, 0), 1), ((1, 0), 1), ((2, 0), 1)])

    def test_no_steps_and_no_area(self):
        for walk in ["", "ns", "ew", "nnss", "nsew", "nesw" + "enws", "eennsswwnsns"]:
            self.assertEqual(squares(walk), [])

    def test_eight(self):
        self.assertEqual(squares(EIGHT), [((-1, -1), -1), ((0, 0), 1)])
        self.assertEqual(squares("enws" + "wsen"), [((-1, -1), 1), ((0, 0), 1)])
        self.assertEqual(squares("eenwws" + "wwsseenn"),
                         [((-2, -2), 1), ((-2, -1), 1), ((-1, -2), 1), ((-1, -1), 1), ((0, 0), 1), ((1, 0), 1)])

    def test_around_twice(self):
        self.assertEqual(squares(DOUBLE), [((0, 0), 2)])
        self.assertEqual(squares("nesw" * 3), [((0, 0), -3)])
        self.assertEqual(squares("eennwwss" + "enws"), [((0, 0), 2), ((0, 1), 1), ((1, 0), 1), ((1, 1), 1)])
        self.assertEqual(squares("eennwwss" + "nesw"), [((0, 1), 1), ((1, 0), 1), ((1, 1), 1)])

    def test_several_in_one_row_with_others_between(self):
        self.assertEqual(squares("eeeee" + "nn" + "wswn" + "wswn" + "wss"),
                         [((0, 0), 1), ((0, 1), 1), ((1, 0), 1), ((2, 0), 1), ((2, 1), 1), ((3, 0), 1), ((4, 0), 1),
                          ((4, 1), 1)])

    def test_each_square_with_its_number(self):
        for walk in SAMPLES:
            numbers = [(square, around_by_the_words(walk, square)) for square in squares_about(walk)]
            self.assertEqual(squares(walk), sorted(pair for pair in numbers if pair[1] != 0))

    def test_agrees_with_around(self):
        for walk in CLOSED + LARGE_LOOPS + [EIGHT, DOUBLE]:
            told = dict(squares(walk))
            for square in squares_about(walk)[::1 if len(walk) < 100 else 29]:
                self.assertEqual(around(walk, square), told.get(square, 0))

    def test_rising_each_once_and_none_with_0(self):
        for walk in SAMPLES + loops_up_to(10):
            told = squares(walk)
            gone_around = [square for square, times in told]
            self.assertEqual(gone_around, sorted(set(gone_around)))
            self.assertNotIn(0, [times for square, times in told])

    def test_long_walks(self):
        side = 300
        told = squares("e" * side + "n" * side + "w" * side + "s" * side)
        self.assertEqual(told, [((x, y), 1) for x in range(side) for y in range(side)])
        self.assertEqual(squares("e" * 20000 + "n" + "w" * 20000 + "s"), [((x, 0), 1) for x in range(20000)])
        self.assertEqual(squares("n" * 20000 + "e" + "s" * 20000 + "w"), [((0, y), -1) for y in range(20000)])
        self.assertEqual(squares("nesw" * 20000), [((0, 0), -20000)])
        self.assertEqual(squares("n" * 40000 + "s" * 40000), [])
        self.assertEqual(squares("en" * 9999 + "ws" * 9999), [((x, x), 1) for x in range(9999)])

    def test_turned_mirrored_backwards_and_begun_elsewhere(self):
        for walk in SAMPLES:
            told = squares(walk)
            self.assertEqual(squares(quartered(walk, 1)), sorted(((-y - 1, x), times) for (x, y), times in told))
            self.assertEqual(squares(mirrored(walk)), sorted(((-x - 1, y), -times) for (x, y), times in told))
            self.assertEqual(squares(backwards(walk)), [(square, -times) for square, times in told])
            a, b = places(walk)[3 % max(len(walk), 1)]
            self.assertEqual(squares(begun(walk, 3)), [((x - a, y - b), times) for (x, y), times in told])

    def test_kinds(self):
        told = squares("eennwwss" + "enws")
        self.assertIs(type(told), list)
        for pair in told:
            self.assertIs(type(pair), tuple)
            self.assertEqual([type(value) for value in pair], [tuple, int])
            self.assertEqual([type(number) for number in pair[0]], [int, int])

    def test_the_list_is_the_askers_own(self):
        for walk in ("", LEFTWARD, "eennwwss", EIGHT):
            told = squares(walk)
            before = list(told)
            told.append(((9, 9), 9))
            told[0] = "changed"
            self.assertEqual(squares(walk), before)
            told.clear()
            self.assertEqual(squares(walk), before)
            self.assertEqual(area(walk), sum(times for square, times in before))
            self.assertIsNot(squares(walk), squares(walk))


class Between(Asked):
    def test_one_end(self):
        self.assertEqual(between("en", "ne"), 1)
        self.assertEqual(between("ne", "en"), -1)
        self.assertEqual(between("eennn", "nnnee"), 6)
        self.assertEqual(between("enwn", "nn"), 1)
        self.assertEqual(between("nn", "wnne"), 2)
        self.assertEqual(between("nn", "ennw"), -2)

    def test_no_steps(self):
        self.assertEqual(between("", ""), 0)
        self.assertEqual(between("", "nesw"), 1)
        self.assertEqual(between("nesw", ""), -1)
        self.assertEqual(between("ns", ""), 0)

    def test_a_walk_and_itself(self):
        for walk in SHORT + LONG_OPEN + LONG_CLOSED + LARGE_LOOPS:
            self.assertEqual(between(walk, walk), 0)

    def test_closed_walks(self):
        for one in CLOSED[::7]:
            for other in CLOSED[::11]:
                self.assertEqual(between(one, other), area(one) - area(other))

    def test_the_closed_walk_by_the_one_and_the_other_backwards(self):
        by_end = {}
        for walk in SHORT:
            by_end.setdefault(end(walk), []).append(walk)
        for walks in by_end.values():
            for one in walks[::5]:
                for other in walks[::9]:
                    told = between(one, other)
                    self.assertEqual(told, area(one + backwards(other)))
                    self.assertEqual(told, -between(other, one))

    def test_two_neighbouring_steps_exchanged(self):
        for walk in SHORT + ["ne" * 2000]:
            for k in range(0, len(walk) - 1, 1 if len(walk) < 10 else 999):
                other = walk[:k] + walk[k + 1] + walk[k] + walk[k + 2:]
                one_step, next_step = walk[k], walk[k + 1]
                if next_step == quartered(one_step, 1):
                    self.assertEqual(between(walk, other), 1)
                elif next_step == quartered(one_step, 3):
                    self.assertEqual(between(walk, other), -1)
                else:
                    self.assertEqual(between(walk, other), 0)

    def test_long_walks(self):
        self.assertEqual(between("e" * 9999 + "n" * 9999, "n" * 9999 + "e" * 9999), 9999 * 9999)
        self.assertEqual(between("en" * 9999, "ne" * 9999), 9999)

    def test_kinds(self):
        self.assertIs(type(between("", "")), int)
        self.assertIs(type(between("en", "ne")), int)

    def test_unlike_ends_refused(self):
        for one in ("", "n", "e", "nne", "nesw"):
            for other in OPEN[::13]:
                if end(one) != end(other):
                    self.refused(NotClosed, between, one, other)
                    self.refused(NotClosed, between, other, one)
        self.refused(NotClosed, between, "n", "s")
        self.refused(NotClosed, between, "ne", "wn")
        self.refused(NotClosed, between, "n", "e")
        self.refused(NotClosed, between, "n" * 50000, "n" * 49999)
        self.refused(NotClosed, between, "en", "ws")

    def test_what_is_no_walk_is_refused_as_either(self):
        for walk in NO_WALKS:
            with self.subTest(shown(walk)):
                for other in ("", "n", "nesw", "ne"):
                    self.refused(BadWalk, between, walk, other)
                    self.refused(BadWalk, between, other, walk)
                self.refused(BadWalk, between, walk, walk)
                self.refused(BadWalk, between, walk, None)
                self.refused(BadWalk, between, "N", walk)


class AllOfThem(Asked):
    def test_what_is_no_walk_is_refused(self):
        for function in (area, squares):
            for walk in NO_WALKS:
                with self.subTest(function.__name__, walk=shown(walk)):
                    self.refused(BadWalk, function, walk)

    def test_walks_that_are_not_closed_are_refused(self):
        for walk in OPEN + LONG_OPEN:
            self.refused(NotClosed, area, walk)
            self.refused(NotClosed, squares, walk)
            self.refused(NotClosed, around, walk, (0, 0))

    def test_a_text_with_other_letters_that_would_be_open_is_no_walk(self):
        for walk in ("nX", "N", "nnE", "enwS"):
            self.refused(BadWalk, area, walk)
            self.refused(BadWalk, squares, walk)
            self.refused(BadWalk, around, walk, (0, 0))

    def test_what_is_refused_is_not_changed(self):
        for walk in (["n", "s"], ("n", "s"), {"n": "s"}):
            before = copy.deepcopy(walk)
            self.refused(BadWalk, area, walk)
            self.refused(BadWalk, squares, walk)
            self.refused(BadWalk, around, walk, (0, 0))
            self.refused(BadWalk, between, walk, walk)
            self.assertEqual(walk, before)

    def test_arguments_by_their_names(self):
        self.assertEqual(area(walk=LEFTWARD), 1)
        self.assertEqual(squares(walk=LEFTWARD), [((0, 0), 1)])
        self.assertEqual(around(walk=LEFTWARD, square=(0, 0)), 1)
        self.assertEqual(between(one="en", other="ne"), 1)


if __name__ == "__main__":
    unittest.main()

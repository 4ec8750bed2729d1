import copy
import unittest

from samples import (BRANCHED, GREAT, HOLLOW, LARGE_LOOPS, LEFT, NO_WALKS, OPEN, Asked, closed_up_to, loops_up_to,
                     places_step_by_step, shown, widened)
from squarewalk.areas import area, around
from squarewalk.errors import BadWalk, NotClosed, NotSimple
from squarewalk.loops import turns, within
from squarewalk.meets import Simple, meets
from squarewalk.walks import backwards, begun, mirrored, places, quartered

LOOPS = loops_up_to(12)
FEWER = loops_up_to(10)
RIGHT = {left: step for step, left in LEFT.items()}
NO_LOOPS = ["", "ns", "sn", "ew", "we", "nsns", "nnss", "nsew", "neswnesw", "enwsswne", "enwswsen", "neewws",
            "nnesnssw", "enws" * 3, "e" + "enws" + "w", "nesw" * 20000, "n" * 40000 + "s" * 40000]


def inner_squares(walk):
    """The squares that can't be come to from outside without going over a step of the loop."""
    gone = places_step_by_step(walk)
    walls = {frozenset(pair) for pair in zip(gone, gone[1:])}
    xs, ys = [x for x, y in gone], [y for x, y in gone]
    all_squares = {(x, y) for x in range(min(xs) - 1, max(xs) + 1) for y in range(min(ys) - 1, max(ys) + 1)}
    waiting = [(min(xs) - 1, min(ys) - 1)]
    outer = set(waiting)
    while waiting:
        x, y = waiting.pop()
        for beside, wall in (((x + 1, y), ((x + 1, y), (x + 1, y + 1))), ((x - 1, y), ((x, y), (x, y + 1))),
                             ((x, y + 1), ((x, y + 1), (x + 1, y + 1))), ((x, y - 1), ((x, y), (x + 1, y)))):
            if beside in all_squares and beside not in outer and frozenset(wall) not in walls:
                outer.add(beside)
                waiting.append(beside)
    return all_squares - outer


def four_squares(place):
    x, y = place
    return [(x, y), (x - 1, y), (x, y - 1), (x - 1, y - 1)]


def within_from_outside(walk):
    inner = inner_squares(walk)
    own = places_step_by_step(walk)
    return sorted(place for place in inner
                  if place not in own and all(square in inner for square in four_squares(place)))


def turns_one_by_one(walk):
    left = sum(walk[k] == LEFT[walk[k - 1]] for k in range(len(walk)))
    right = sum(walk[k] == RIGHT[walk[k - 1]] for k in range(len(walk)))
    return (left, right)


class Turns(Asked):
    def test_to_the_left_and_to_the_right(self):
        self.assertEqual(turns("enws"), (4, 0))
        self.assertEqual(turns("nesw"), (0, 4))
        self.assertEqual(turns("eennwwss"), (4, 0))
        self.assertEqual(turns("nneessww"), (0, 4))
        self.assertEqual(turns("eenwnwss"), (5, 1))
        self.assertEqual(turns("nnesesww"), (1, 5))

    def test_the_first_step_comes_behind_the_last_one(self):
        for walk in ("enws", "nwse", "wsen", "senw"):
            self.assertEqual(turns(walk), (4, 0))
        self.assertEqual(turns("eenwws"), (4, 0))
        self.assertEqual(turns("enwwse"), (4, 0))
        self.assertEqual(turns("nessswnn"), (0, 4))

    def test_one_by_one(self):
        for walk in LOOPS + LARGE_LOOPS:
            self.assertEqual(turns(walk), turns_one_by_one(walk))

    def test_four_more_to_the_side_that_it_goes_around(self):
        for walk in LOOPS + LARGE_LOOPS:
            left, right = turns(walk)
            self.assertEqual(left - right, 4 if area(walk) > 0 else -4)

    def test_begun_anywhere(self):
        for walk in FEWER[::5] + LARGE_LOOPS[:8]:
            told = turns(walk)
            for by in range(len(walk)):
                self.assertEqual(turns(begun(walk, by)), told)

    def test_turned_mirrored_and_backwards(self):
        for walk in FEWER + LARGE_LOOPS:
            left, right = turns(walk)
            for by in (1, 2, 3):
                self.assertEqual(turns(quartered(walk, by)), (left, right))
            self.assertEqual(turns(mirrored(walk)), (right, left))
            self.assertEqual(turns(backwards(walk)), (right, left))

    def test_long_loops(self):
        side = 9999
        self.assertEqual(turns("e" * side + "n" * side + "w" * side + "s" * side), (4, 0))
        self.assertEqual(turns("n" * side + "e" * side + "s" * side + "w" * side), (0, 4))
        stairs = "e" + "en" * side + "nw" + "ws" * side + "s"
        self.assertEqual(turns(stairs), turns_one_by_one(stairs))

    def test_kinds(self):
        told = turns("enws")
        self.assertIs(type(told), tuple)
        self.assertEqual([type(number) for number in told], [int, int])


class Within(Asked):
    def test_none_within(self):
        self.assertEqual(within("enws"), [])
        self.assertEqual(within("nesw"), [])
        self.assertEqual(within("eeenwwws"), [])
        self.assertEqual(within("eenwnwss"), [])
        for walk in BRANCHED:
            self.assertEqual(within(walk), [])

    def test_to_the_left_and_to_the_right(self):
        self.assertEqual(within("eennwwss"), [(1, 1)])
        self.assertEqual(within("nneessww"), [(1, 1)])
        self.assertEqual(within("eeennnwwwsss"), [(1, 1), (1, 2), (2, 1), (2, 2)])
        self.assertEqual(within("nnneeessswww"), [(1, 1), (1, 2), (2, 1), (2, 2)])
        self.assertEqual(within("eeennwwwss"), [(1, 1), (2, 1)])
        self.assertEqual(within("wwnnneesss"), [(-1, 1), (-1, 2)])
        self.assertEqual(within("wwsseenn"), [(-1, -1)])

    def test_places_of_the_loop_with_four_squares_of_which_not_all_are_gone_around(self):
        corner = "eeee" + "nn" + "ww" + "nn" + "ww" + "ssss"
        self.assertEqual(within(corner), [(1, 1), (1, 2), (1, 3), (2, 1), (3, 1)])
        self.assertEqual([around(corner, square) for square in four_squares((2, 2))], [0, 1, 1, 1])
        slit = "eeee" + "nnn" + "w" + "ss" + "w" + "nn" + "ww" + "sss"
        self.assertEqual(within(slit), [(1, 1), (1, 2)])
        for walk in FEWER + LARGE_LOOPS[:8]:
            told = within(walk)
            for place in places(walk):
                self.assertNotIn(place, told)
                self.assertIn(0, [around(walk, square) for square in four_squares(place)])

    def test_places_in_a_hollow_are_not_within(self):
        self.assertEqual(within(HOLLOW), sorted(
            {(x, y) for x in range(1, 7) for y in range(1, 7)} - {(x, y) for x in range(2, 6) for y in range(2, 6)}
            - {(3, 1), (4, 1)}))
        self.assertNotIn((3, 3), within(HOLLOW))

    def test_from_outside(self):
        for walk in LOOPS + LARGE_LOOPS + [backwards(walk) for walk in LARGE_LOOPS]:
            self.assertEqual(within(walk), within_from_outside(walk))

    def test_all_four_squares_are_gone_around(self):
        for walk in FEWER + [widened(walk, 2) for walk in BRANCHED[:3]] + [HOLLOW]:
            for place in within(walk):
                for square in four_squares(place):
                    self.assertNotEqual(around(walk, square), 0)

    def test_as_many_as_the_area_and_the_steps_tell(self):
        for walk in LOOPS + LARGE_LOOPS:
            self.assertEqual(2 * len(within(walk)), 2 * abs(area(walk)) - len(walk) + 2)

    def test_begun_anywhere(self):
        for walk in FEWER[::11] + [widened(BRANCHED[1], 2), widened(BRANCHED[0], 3), HOLLOW, "nnneeessswww"]:
            told = within(walk)
            gone = places_step_by_step(walk)
            for by in range(len(walk)):
                a, b = gone[by]
                self.assertEqual(within(begun(walk, by)), [(x - a, y - b) for x, y in told])

    def test_turned_mirrored_and_backwards(self):
        for walk in FEWER + LARGE_LOOPS:
            told = within(walk)
            self.assertEqual(within(quartered(walk, 1)), sorted((-y, x) for x, y in told))
            self.assertEqual(within(mirrored(walk)), sorted((-x, y) for x, y in told))
            self.assertEqual(within(backwards(walk)), told)

    def test_rising_each_once(self):
        for walk in LOOPS + LARGE_LOOPS:
            told = within(walk)
            self.assertEqual(told, sorted(set(told)))

    def test_long_loops(self):
        side = 300
        self.assertEqual(within("e" * side + "n" * side + "w" * side + "s" * side),
                         [(x, y) for x in range(1, side) for y in range(1, side)])
        self.assertEqual(within("e" * 20000 + "nn" + "w" * 20000 + "ss"), [(x, 1) for x in range(1, 20000)])
        self.assertEqual(within("n" * 20000 + "e" + "s" * 20000 + "w"), [])

    def test_kinds(self):
        told = within("eeennnwwwsss")
        self.assertIs(type(told), list)
        for place in told:
            self.assertIs(type(place), tuple)
            self.assertEqual([type(number) for number in place], [int, int])

    def test_the_list_is_the_askers_own(self):
        for walk in ("enws", "eennwwss", "eeennnwwwsss"):
            told = within(walk)
            before = list(told)
            told.append((9, 9))
            told[0] = "changed"
            self.assertEqual(within(walk), before)
            told.clear()
            self.assertEqual(within(walk), before)
            self.assertIsNot(within(walk), within(walk))


class BothOfThem(Asked):
    def test_what_is_no_walk_is_refused(self):
        for function in (turns, within):
            for walk in NO_WALKS:
                with self.subTest(function.__name__, walk=shown(walk)):
                    self.refused(BadWalk, function, walk)

    def test_walks_that_are_not_closed_are_refused(self):
        for walk in OPEN + ["n" * 50000, "ne" * 30000, "nesw" * 20000 + "e", "nsnsn", "neswn"]:
            self.refused(NotClosed, turns, walk)
            self.refused(NotClosed, within, walk)

    def test_closed_walks_that_are_no_loop_are_refused(self):
        for walk in NO_LOOPS:
            with self.subTest(shown(walk)):
                self.refused(NotSimple, turns, walk)
                self.refused(NotSimple, within, walk)

    def test_closed_walks_of_eight_steps_or_fewer(self):
        loops = set(loops_up_to(8))
        self.assertEqual(len(loops), 8 + 24 + 112)
        for walk in closed_up_to(8):
            if walk in loops:
                self.assertEqual(turns(walk), turns_one_by_one(walk))
                self.assertEqual(within(walk), within_from_outside(walk))
            else:
                self.refused(NotSimple, turns, walk)
                self.refused(NotSimple, within, walk)

    def test_simple_closed_walks_that_are_no_loop(self):
        for walk in ("", "ns", "ew"):
            self.assertIs(type(meets(walk)), Simple)
            self.refused(NotSimple, turns, walk)
            self.refused(NotSimple, within, walk)

    def test_bad_walk_goes_ahead_of_not_closed_and_not_simple(self):
        for walk in ("nX", "nsX", "nsnsN", "N", "NESW", ["n", "s"], ("e", "n", "w", "s"), GREAT):
            self.refused(BadWalk, turns, walk)
            self.refused(BadWalk, within, walk)

    def test_not_closed_goes_ahead_of_not_simple(self):
        for walk in ("n", "nsn", "nns", "neswe", "nse"):
            self.refused(NotClosed, turns, walk)
            self.refused(NotClosed, within, walk)

    def test_what_is_refused_is_not_changed(self):
        for walk in (["n", "s"], ("n", "s"), {"n": "s"}):
            before = copy.deepcopy(walk)
            self.refused(BadWalk, turns, walk)
            self.refused(BadWalk, within, walk)
            self.assertEqual(walk, before)

    def test_arguments_by_their_names(self):
        self.assertEqual(turns(walk="enws"), (4, 0))
        self.assertEqual(within(walk="eennwwss"), [(1, 1)])


if __name__ == "__main__":
    unittest.main()

import copy
import unittest

from samples import (CLOSED, GREAT, LETTERS, LONG, MOVES, NO_NUMBERS, NO_WALKS, NUMBERS, OPEN, OPPOSITE, SHORT,
                     Asked, places_step_by_step, shown)
from squarewalk.errors import BadNumber, BadWalk, NotClosed
from squarewalk.walks import backwards, begun, end, mirrored, places, quartered, thinned


class Places(Asked):
    def test_no_steps(self):
        self.assertEqual(places(""), [(0, 0)])

    def test_one_step_each(self):
        self.assertEqual(places("n"), [(0, 0), (0, 1)])
        self.assertEqual(places("e"), [(0, 0), (1, 0)])
        self.assertEqual(places("s"), [(0, 0), (0, -1)])
        self.assertEqual(places("w"), [(0, 0), (-1, 0)])

    def test_all_moments_in_their_order(self):
        self.assertEqual(places("neesw"), [(0, 0), (0, 1), (1, 1), (2, 1), (2, 0), (1, 0)])
        self.assertEqual(places("nsns"), [(0, 0), (0, 1), (0, 0), (0, 1), (0, 0)])
        self.assertEqual(places("nesw"), [(0, 0), (0, 1), (1, 1), (1, 0), (0, 0)])

    def test_short_and_long_walks(self):
        for walk in SHORT + LONG:
            self.assertEqual(places(walk), places_step_by_step(walk))

    def test_kinds(self):
        told = places("nesswwnn")
        self.assertIs(type(told), list)
        for place in told:
            self.assertIs(type(place), tuple)
            self.assertEqual([type(number) for number in place], [int, int])

    def test_the_list_is_the_askers_own(self):
        for walk in ("", "n", "nesw", "nnee"):
            told = places(walk)
            before = copy.deepcopy(told)
            told.append((7, 7))
            told[0] = "changed"
            self.assertEqual(places(walk), before)
            told.clear()
            self.assertEqual(places(walk), before)
            self.assertIsNot(places(walk), places(walk))
            self.assertEqual(end(walk), before[-1])

    def test_an_answer_stays_when_another_walk_is_asked_for(self):
        told = places("ne")
        places("sswwn")
        places("")
        self.assertEqual(told, [(0, 0), (0, 1), (1, 1)])


class End(Asked):
    def test_no_steps(self):
        self.assertEqual(end(""), (0, 0))

    def test_ordinary(self):
        self.assertEqual(end("n"), (0, 1))
        self.assertEqual(end("e"), (1, 0))
        self.assertEqual(end("s"), (0, -1))
        self.assertEqual(end("w"), (-1, 0))
        self.assertEqual(end("nne"), (1, 2))
        self.assertEqual(end("wwwss"), (-3, -2))
        self.assertEqual(end("nesw"), (0, 0))

    def test_short_and_long_walks_end_at_their_last_place(self):
        for walk in SHORT + LONG:
            self.assertEqual(end(walk), places_step_by_step(walk)[-1])

    def test_kinds(self):
        for walk in ("", "n", "nesw", "wws"):
            told = end(walk)
            self.assertIs(type(told), tuple)
            self.assertEqual([type(number) for number in told], [int, int])


class Quartered(Asked):
    def test_one_quarter_to_the_left(self):
        self.assertEqual(quartered("n", 1), "w")
        self.assertEqual(quartered("w", 1), "s")
        self.assertEqual(quartered("s", 1), "e")
        self.assertEqual(quartered("e", 1), "n")
        self.assertEqual(quartered("nnesw", 1), "wwnes")

    def test_other_quarters(self):
        self.assertEqual(quartered("nnesw", 0), "nnesw")
        self.assertEqual(quartered("nnesw", 2), "sswne")
        self.assertEqual(quartered("nnesw", 3), "eeswn")
        self.assertEqual(quartered("nnesw", 4), "nnesw")
        self.assertEqual(quartered("nnesw", -1), "eeswn")
        self.assertEqual(quartered("nnesw", -2), "sswne")
        self.assertEqual(quartered("nnesw", -3), "wwnes")

    def test_very_great_numbers(self):
        self.assertEqual(quartered("nnesw", GREAT), "nnesw")
        self.assertEqual(quartered("nnesw", GREAT + 1), "wwnes")
        self.assertEqual(quartered("nnesw", -GREAT), "nnesw")
        self.assertEqual(quartered("nnesw", -GREAT - 1), "eeswn")
        self.assertEqual(quartered("e" * 50000, GREAT + 1), "n" * 50000)

    def test_no_steps(self):
        for number in NUMBERS:
            self.assertEqual(quartered("", number), "")

    def test_any_number_is_so_many_single_quarters(self):
        for walk in ("", "n", "wse", "nneswws", "n" * 3000 + "e" * 2000):
            for number in NUMBERS:
                by_ones = walk
                for quarter in range(number % 4):
                    by_ones = quartered(by_ones, 1)
                self.assertEqual(quartered(walk, number), by_ones)

    def test_the_end_turns_along(self):
        for walk in SHORT + LONG:
            x, y = end(walk)
            self.assertEqual(end(quartered(walk, 1)), (-y, x))

    def test_number_refused(self):
        for number in NO_NUMBERS:
            with self.subTest(shown(number)):
                self.refused(BadNumber, quartered, "nesw", number)
                self.refused(BadNumber, quartered, "n", number)
                self.refused(BadNumber, quartered, "", number)

    def test_walk_refused_ahead_of_the_number(self):
        for walk in NO_WALKS:
            for number in (0, 1, GREAT, True, None, "1", 1.0):
                with self.subTest(shown(walk), number=shown(number)):
                    self.refused(BadWalk, quartered, walk, number)


class Mirrored(Asked):
    def test_east_and_west_exchanged(self):
        self.assertEqual(mirrored(""), "")
        self.assertEqual(mirrored("n"), "n")
        self.assertEqual(mirrored("e"), "w")
        self.assertEqual(mirrored("s"), "s")
        self.assertEqual(mirrored("w"), "e")
        self.assertEqual(mirrored("nneessw"), "nnwwsse")

    def test_twice_is_the_walk_again(self):
        for walk in SHORT + LONG:
            self.assertEqual(mirrored(mirrored(walk)), walk)

    def test_places_are_mirrored(self):
        for walk in SHORT + LONG:
            self.assertEqual(places(mirrored(walk)), [(-x, y) for x, y in places_step_by_step(walk)])


class Backwards(Asked):
    def test_ordinary(self):
        self.assertEqual(backwards(""), "")
        self.assertEqual(backwards("n"), "s")
        self.assertEqual(backwards("e"), "w")
        self.assertEqual(backwards("s"), "n")
        self.assertEqual(backwards("w"), "e")
        self.assertEqual(backwards("ne"), "ws")
        self.assertEqual(backwards("nnesw"), "enwss")

    def test_twice_is_the_walk_again(self):
        for walk in SHORT + LONG:
            self.assertEqual(backwards(backwards(walk)), walk)

    def test_goes_by_the_same_places_from_the_end(self):
        for walk in SHORT + LONG:
            gone = places_step_by_step(walk)
            x, y = gone[-1]
            self.assertEqual(places(backwards(walk)), [(a - x, b - y) for a, b in reversed(gone)])


def a_step_is_taken_back(walk):
    return any(walk[k + 1] == OPPOSITE[walk[k]] for k in range(len(walk) - 1))


def thinned_in_turn(walk, choose):
    """Leaves out pairs one by one, each time the one that is chosen among those that are there."""
    while a_step_is_taken_back(walk):
        pairs = [k for k in range(len(walk) - 1) if walk[k + 1] == OPPOSITE[walk[k]]]
        k = choose(pairs)
        walk = walk[:k] + walk[k + 2:]
    return walk


class Thinned(Asked):
    def test_ordinary(self):
        self.assertEqual(thinned("n"), "n")
        self.assertEqual(thinned("ns"), "")
        self.assertEqual(thinned("sn"), "")
        self.assertEqual(thinned("ew"), "")
        self.assertEqual(thinned("we"), "")
        self.assertEqual(thinned("nn"), "nn")
        self.assertEqual(thinned("nesw"), "nesw")
        self.assertEqual(thinned("newn"), "nn")
        self.assertEqual(thinned("nns"), "n")
        self.assertEqual(thinned("nsn"), "n")

    def test_no_steps(self):
        self.assertEqual(thinned(""), "")

    def test_pairs_that_come_together_by_leaving_out(self):
        self.assertEqual(thinned("news"), "")
        self.assertEqual(thinned("nneewwss"), "")
        self.assertEqual(thinned("nnewse"), "ne")
        self.assertEqual(thinned("wnse"), "")

    def test_the_first_and_the_last_step_are_no_pair(self):
        self.assertEqual(thinned("nes"), "nes")
        self.assertEqual(thinned("wnne"), "wnne")

    def test_the_same_in_whatever_turn(self):
        for walk in SHORT + CLOSED:
            told = thinned(walk)
            self.assertEqual(told, thinned_in_turn(walk, lambda pairs: pairs[0]))
            self.assertEqual(told, thinned_in_turn(walk, lambda pairs: pairs[-1]))
            self.assertEqual(told, thinned_in_turn(walk, lambda pairs: pairs[len(pairs) // 2]))

    def test_same_end_and_no_step_taken_back(self):
        for walk in SHORT + LONG + [walk + backwards(walk[3:]) for walk in LONG]:
            told = thinned(walk)
            self.assertEqual(end(told), places_step_by_step(walk)[-1])
            self.assertFalse(a_step_is_taken_back(told))
            self.assertEqual(thinned(told), told)

    def test_a_thinned_walk_stays(self):
        for walk in SHORT:
            if not a_step_is_taken_back(walk):
                self.assertEqual(thinned(walk), walk)

    def test_joined_to_itself_backwards(self):
        for walk in SHORT + LONG:
            self.assertEqual(thinned(walk + backwards(walk)), "")
            self.assertEqual(thinned(backwards(walk) + walk), "")


class Begun(Asked):
    def test_ordinary(self):
        self.assertEqual(begun("nesw", 0), "nesw")
        self.assertEqual(begun("nesw", 1), "eswn")
        self.assertEqual(begun("nesw", 2), "swne")
        self.assertEqual(begun("nesw", 3), "wnes")
        self.assertEqual(begun("nesw", 4), "nesw")
        self.assertEqual(begun("nnessw", 2), "esswnn")

    def test_numbers_below_0(self):
        self.assertEqual(begun("nesw", -1), "wnes")
        self.assertEqual(begun("nesw", -4), "nesw")
        self.assertEqual(begun("nnessw", -2), "swnnes")
        self.assertEqual(begun("nnessw", -8), "swnnes")

    def test_very_great_numbers(self):
        self.assertEqual(begun("nesw", GREAT), "nesw")
        self.assertEqual(begun("nesw", GREAT + 1), "eswn")
        self.assertEqual(begun("nesw", -GREAT - 1), "wnes")
        self.assertEqual(begun("nnessw", 6 * GREAT + 2), "esswnn")

    def test_no_steps(self):
        for number in NUMBERS:
            self.assertEqual(begun("", number), "")

    def test_step_by_step(self):
        for walk in CLOSED:
            one_on = walk
            for number in range(2 * len(walk) + 2):
                self.assertEqual(begun(walk, number), one_on)
                self.assertEqual(begun(one_on, -number), walk)
                one_on = one_on[1:] + one_on[:1]

    def test_any_number(self):
        for walk in ("ns", "nesw", "nnessw", "nnneeesssw" + "ww"):
            for number in NUMBERS:
                k = number % len(walk)
                self.assertEqual(begun(walk, number), walk[k:] + walk[:k])

    def test_long_walks(self):
        walk = "n" * 40000 + "s" * 40000
        self.assertEqual(begun(walk, 39999), "n" + "s" * 40000 + "n" * 39999)
        self.assertEqual(begun(walk, -1), "s" + "n" * 40000 + "s" * 39999)
        self.assertEqual(begun(walk, 80000 * GREAT + 40000), "s" * 40000 + "n" * 40000)

    def test_walk_that_is_not_closed_refused(self):
        for walk in OPEN + ["n" * 50000, "ne" * 30000, "nesw" * 20000 + "e"]:
            for number in (0, 1, -1, GREAT):
                self.refused(NotClosed, begun, walk, number)

    def test_number_refused(self):
        for number in NO_NUMBERS:
            with self.subTest(shown(number)):
                self.refused(BadNumber, begun, "nesw", number)
                self.refused(BadNumber, begun, "ns", number)
                self.refused(BadNumber, begun, "", number)

    def test_not_closed_goes_ahead_of_the_number(self):
        for number in NO_NUMBERS:
            with self.subTest(shown(number)):
                self.refused(NotClosed, begun, "n", number)
                self.refused(NotClosed, begun, "nes", number)

    def test_bad_walk_goes_ahead_of_all(self):
        for walk in NO_WALKS:
            for number in [0, 1, GREAT] + NO_NUMBERS:
                with self.subTest(shown(walk), number=shown(number)):
                    self.refused(BadWalk, begun, walk, number)


class AllOfThem(Asked):
    def test_what_is_no_walk_is_refused(self):
        for function in (places, end, mirrored, backwards, thinned):
            for walk in NO_WALKS:
                with self.subTest(function.__name__, walk=shown(walk)):
                    self.refused(BadWalk, function, walk)

    def test_what_is_refused_is_not_changed(self):
        for walk in (["n", "s"], ("n", "s"), {"n": "s"}):
            before = copy.deepcopy(walk)
            for function in (places, end, mirrored, backwards, thinned):
                self.refused(BadWalk, function, walk)
            self.refused(BadWalk, quartered, walk, 1)
            self.refused(BadWalk, begun, walk, 1)
            self.assertEqual(walk, before)

    def test_a_number_in_a_list_is_not_changed(self):
        number = [1]
        self.refused(BadNumber, quartered, "nesw", number)
        self.refused(BadNumber, begun, "nesw", number)
        self.assertEqual(number, [1])

    def test_walks_are_told_as_texts(self):
        for walk in ("", "ns", "nesw"):
            for told in (quartered(walk, 0), mirrored(walk), backwards(walk), thinned(walk), begun(walk, 0)):
                self.assertIs(type(told), str)

    def test_arguments_by_their_names(self):
        self.assertEqual(places(walk="n"), [(0, 0), (0, 1)])
        self.assertEqual(end(walk="n"), (0, 1))
        self.assertEqual(quartered(walk="n", by=1), "w")
        self.assertEqual(mirrored(walk="e"), "w")
        self.assertEqual(backwards(walk="e"), "w")
        self.assertEqual(thinned(walk="ew"), "")
        self.assertEqual(begun(walk="ew", by=1), "we")

    def test_each_letter_is_a_step(self):
        for letter in LETTERS:
            self.assertEqual(end(letter), MOVES[letter])

    def test_asked_twice_the_same_is_told(self):
        for walk in ("", "ns", "nesw", "nneswswe"):
            for function in (places, end, mirrored, backwards, thinned):
                self.assertEqual(function(walk), function(walk))
            self.assertEqual(quartered(walk, 3), quartered(walk, 3))


if __name__ == "__main__":
    unittest.main()

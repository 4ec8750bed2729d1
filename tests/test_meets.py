import copy
import unittest

from samples import (BRANCHED, CLOSED, GREAT, LARGE_LOOPS, LONG, NO_WALKS, SHORT, Asked, loops_up_to,
                     places_step_by_step, shown, walks_up_to)
from squarewalk import meets as module
from squarewalk.errors import BadWalk
from squarewalk.meets import Answer, Simple, Twice, meets
from squarewalk.walks import backwards, begun, mirrored, quartered

WALKS = walks_up_to(6)
MORE = LONG + LARGE_LOOPS + [walk + "n" for walk in LARGE_LOOPS] + [walk[:-1] for walk in LARGE_LOOPS] + [
    walk + walk for walk in BRANCHED]
SPIRAL = "".join("nesw"[k % 4] * (k // 2 + 1) for k in range(300))


def pairs_of(walk):
    """All moments that a Twice may name, found by trying each with each."""
    gone = places_step_by_step(walk)
    last = len(walk)
    return [(first, second) for first in range(last + 1) for second in range(first + 1, last + 1)
            if gone[first] == gone[second] and (first, second) != (0, last)]


def places_each_once(walk):
    return sorted(set(places_step_by_step(walk)))


class TheClasses(unittest.TestCase):
    def test_bases(self):
        self.assertEqual(Answer.__bases__, (object,))
        self.assertEqual(Simple.__bases__, (Answer,))
        self.assertEqual(Twice.__bases__, (Answer,))

    def test_names(self):
        for name in ("Answer", "Simple", "Twice", "meets"):
            self.assertEqual(getattr(module, name).__name__, name)

    def test_fields(self):
        answer = Simple([(0, 0), (0, 1)])
        self.assertEqual(answer.places, [(0, 0), (0, 1)])
        self.assertIs(type(answer.places), list)
        answer = Twice(1, 3)
        self.assertEqual((answer.first, answer.second), (1, 3))

    def test_fields_are_taken_as_they_are(self):
        self.assertEqual(Simple([]).places, [])
        self.assertEqual(Simple([(3, 3), (1, 1), (3, 3)]).places, [(3, 3), (1, 1), (3, 3)])
        answer = Twice(GREAT, -5)
        self.assertEqual((answer.first, answer.second), (GREAT, -5))

    def test_arguments_by_their_names(self):
        self.assertEqual(Simple(places=[(0, 0)]).places, [(0, 0)])
        answer = Twice(first=0, second=2)
        self.assertEqual((answer.first, answer.second), (0, 2))
        self.assertIs(answer.shows(walk="nsn"), True)
        self.assertIs(Simple(places=[(0, 0)]).shows(walk=""), True)
        self.assertEqual(meets(walk="").places, [(0, 0)])

    def test_the_list_is_copied(self):
        handed_in = [(0, 0), (0, 1)]
        answer = Simple(handed_in)
        handed_in.append((0, 2))
        handed_in[0] = (5, 5)
        self.assertEqual(answer.places, [(0, 0), (0, 1)])
        self.assertIs(answer.shows("n"), True)
        handed_in.clear()
        self.assertIs(answer.shows("n"), True)

    def test_the_list_handed_in_stays(self):
        handed_in = [(0, 0), (0, 1)]
        answer = Simple(handed_in)
        answer.places.append((0, 2))
        self.assertEqual(handed_in, [(0, 0), (0, 1)])
        handed_in = [(0, 1), (0, 0)]
        Simple(handed_in).shows("n")
        self.assertEqual(handed_in, [(0, 1), (0, 0)])

    def test_two_answers_of_one_list_are_apart(self):
        handed_in = [(0, 0), (0, 1)]
        one, other = Simple(handed_in), Simple(handed_in)
        one.places.clear()
        self.assertEqual(other.places, [(0, 0), (0, 1)])


class Meets(Asked):
    def simple(self, walk, places):
        answer = meets(walk)
        self.assertIs(type(answer), Simple)
        self.assertEqual(answer.places, places)

    def twice(self, walk):
        answer = meets(walk)
        self.assertIs(type(answer), Twice)
        self.assertIn((answer.first, answer.second), pairs_of(walk))

    def test_no_steps(self):
        self.simple("", [(0, 0)])

    def test_one_step(self):
        self.simple("n", [(0, 0), (0, 1)])
        self.simple("e", [(0, 0), (1, 0)])
        self.simple("s", [(0, -1), (0, 0)])
        self.simple("w", [(-1, 0), (0, 0)])

    def test_open_walks_without_a_place_twice(self):
        self.simple("ne", [(0, 0), (0, 1), (1, 1)])
        self.simple("en", [(0, 0), (1, 0), (1, 1)])
        self.simple("nwws", [(-2, 0), (-2, 1), (-1, 1), (0, 0), (0, 1)])
        self.simple("nes", [(0, 0), (0, 1), (1, 0), (1, 1)])

    def test_closed_walks_of_two_steps(self):
        self.simple("ns", [(0, 0), (0, 1)])
        self.simple("sn", [(0, -1), (0, 0)])
        self.simple("ew", [(0, 0), (1, 0)])
        self.simple("we", [(-1, 0), (0, 0)])

    def test_closed_walks_without_a_place_twice_before_the_end(self):
        self.simple("nesw", [(0, 0), (0, 1), (1, 0), (1, 1)])
        self.simple("eenwws", [(0, 0), (0, 1), (1, 0), (1, 1), (2, 0), (2, 1)])
        for walk in loops_up_to(10) + LARGE_LOOPS:
            self.simple(walk, places_each_once(walk))

    def test_twice_at_once(self):
        for walk in ("nsn", "nse", "nss", "nsw", "ewn", "wes"):
            answer = meets(walk)
            self.assertIs(type(answer), Twice)
            self.assertEqual((answer.first, answer.second), (0, 2))
        answer = meets("nns")
        self.assertIs(type(answer), Twice)
        self.assertEqual((answer.first, answer.second), (1, 3))

    def test_twice_late(self):
        answer = meets("eeeenwwws" + "s")
        self.assertIs(type(answer), Twice)
        self.assertEqual((answer.first, answer.second), (1, 9))
        answer = meets("n" * 20000 + "esw")
        self.assertIs(type(answer), Twice)
        self.assertEqual((answer.first, answer.second), (19999, 20003))

    def test_the_beginning_again_ahead_of_the_end(self):
        answer = meets("neswn")
        self.assertIs(type(answer), Twice)
        self.assertEqual((answer.first, answer.second), (0, 4))

    def test_closed_walks_with_a_place_twice_before_the_end(self):
        for walk in ("nsns", "nsew", "nnss", "neswnesw", "neswswne", "enwswsen", "nnesws", "neewws"):
            self.twice(walk)

    def test_all_short_walks(self):
        for walk in WALKS:
            pairs = pairs_of(walk)
            answer = meets(walk)
            if pairs:
                self.assertIs(type(answer), Twice)
                self.assertIn((answer.first, answer.second), pairs)
            else:
                self.assertIs(type(answer), Simple)
                self.assertEqual(answer.places, places_each_once(walk))

    def test_places_are_rising_each_once_and_tuples(self):
        for walk in WALKS + MORE + [SPIRAL]:
            answer = meets(walk)
            if type(answer) is Simple:
                self.assertIs(type(answer.places), list)
                self.assertEqual(answer.places, places_each_once(walk))
                for place in answer.places:
                    self.assertIs(type(place), tuple)
                    self.assertEqual([type(number) for number in place], [int, int])
                self.assertFalse(hasattr(answer, "first") or hasattr(answer, "second"))

    def test_moments_rise_at_one_place_and_are_not_the_first_and_the_last(self):
        for walk in WALKS + MORE:
            answer = meets(walk)
            if type(answer) is Twice:
                self.assertEqual([type(answer.first), type(answer.second)], [int, int])
                self.assertTrue(0 <= answer.first < answer.second <= len(walk))
                self.assertNotEqual((answer.first, answer.second), (0, len(walk)))
                gone = places_step_by_step(walk)
                self.assertEqual(gone[answer.first], gone[answer.second])
                self.assertFalse(hasattr(answer, "places"))

    def test_the_answer_is_of_one_class_alone(self):
        for walk in WALKS + MORE:
            self.assertIn(type(meets(walk)), (Simple, Twice))

    def test_long_walks(self):
        self.simple("n" * 50000, [(0, y) for y in range(50001)])
        self.simple("w" * 50000, [(x, 0) for x in range(-50000, 1)])
        self.simple("ne" * 30000, places_each_once("ne" * 30000))
        self.simple("e" * 9999 + "n" * 9999 + "w" * 9999 + "s" * 9999,
                    places_each_once("e" * 9999 + "n" * 9999 + "w" * 9999 + "s" * 9999))
        self.simple(SPIRAL, places_each_once(SPIRAL))
        self.assertIs(type(meets("n" * 40000 + "s" * 40000)), Twice)
        self.assertIs(type(meets("nesw" * 20000)), Twice)
        around = "n" + "e" * 9999 + "n" * 9999 + "w" * 9999
        self.assertIs(type(meets(around + "s" * 9998)), Simple)
        answer = meets(around + "s" * 9999)
        self.assertIs(type(answer), Twice)
        self.assertEqual((answer.first, answer.second), (1, 39997))

    def test_turned_mirrored_backwards_and_begun_elsewhere(self):
        for walk in SHORT + LARGE_LOOPS:
            told = type(meets(walk))
            for other in [quartered(walk, 1), quartered(walk, 2), quartered(walk, 3), mirrored(walk), backwards(walk)]:
                self.assertIs(type(meets(other)), told)
        for walk in CLOSED + LARGE_LOOPS:
            for by in (1, 2, -1):
                self.assertIs(type(meets(begun(walk, by))), type(meets(walk)))

    def test_what_is_no_walk_is_refused(self):
        for walk in NO_WALKS:
            with self.subTest(shown(walk)):
                self.refused(BadWalk, meets, walk)

    def test_what_is_refused_is_not_changed(self):
        for walk in (["n", "s"], ("n", "s"), {"n": "s"}):
            before = copy.deepcopy(walk)
            self.refused(BadWalk, meets, walk)
            self.assertEqual(walk, before)

    def test_the_list_is_the_askers_own(self):
        for walk in ("", "n", "ns", "nesw", "nnee"):
            answer = meets(walk)
            before = list(answer.places)
            answer.places.append((9, 9))
            answer.places[0] = "changed"
            self.assertEqual(meets(walk).places, before)
            answer.places.clear()
            self.assertEqual(meets(walk).places, before)
            self.assertIs(meets(walk).shows(walk), True)
            self.assertIsNot(meets(walk), meets(walk))
            self.assertIsNot(meets(walk).places, meets(walk).places)

    def test_an_answer_stays_when_another_walk_is_asked_for(self):
        simple, twice = meets("ne"), meets("nns")
        meets("sswwnne")
        meets("")
        self.assertEqual(simple.places, [(0, 0), (0, 1), (1, 1)])
        self.assertEqual((twice.first, twice.second), (1, 3))


class Shows(Asked):
    def test_what_meets_tells_is_shown(self):
        for walk in WALKS + MORE + [SPIRAL]:
            self.assertIs(meets(walk).shows(walk), True)

    def test_asked_again_the_same_is_told(self):
        for walk in ("", "n", "ns", "nesw", "nns", "nsn"):
            answer = meets(walk)
            before = copy.deepcopy(vars(answer))
            for again in range(3):
                self.assertIs(answer.shows(walk), True)
                self.assertIs(answer.shows(walk + "nnnnnnnnee"), type(answer) is Twice)
            self.assertEqual(vars(answer), before)

    def test_one_of_two_things_never_both(self):
        for walk in SHORT:
            pairs = pairs_of(walk)
            for first in range(-1, len(walk) + 3):
                for second in range(-1, len(walk) + 3):
                    self.assertIs(Twice(first, second).shows(walk), (first, second) in pairs)
            self.assertIs(Simple(places_each_once(walk)).shows(walk), not pairs)
            self.assertIs(Simple(sorted(places_step_by_step(walk))).shows(walk),
                          not pairs and len(set(places_step_by_step(walk))) == len(walk) + 1)

    def test_simple_of_another_walk(self):
        walks = [walk for walk in SHORT if len(walk) <= 3]
        for one in walks:
            answer = Simple(places_each_once(one))
            for other in walks:
                self.assertIs(answer.shows(other),
                              not pairs_of(other) and places_each_once(one) == places_each_once(other))

    # The document tells no refusal of shows; the program refuses there as everywhere.
    def test_what_is_no_walk_is_refused_whatever_the_fields(self):
        for walk in NO_WALKS:
            with self.subTest(shown(walk)):
                for answer in (Simple([]), Simple([(0, 0)]), Twice(0, 0), Twice(0, 2), Twice(GREAT, -1)):
                    self.refused(BadWalk, answer.shows, walk)


class ShowsSimple(unittest.TestCase):
    def test_by_hand(self):
        self.assertIs(Simple([(0, 0)]).shows(""), True)
        self.assertIs(Simple([(0, 0), (0, 1)]).shows("n"), True)
        self.assertIs(Simple([(0, 0), (0, 1)]).shows("ns"), True)
        self.assertIs(Simple([(0, -1), (0, 0)]).shows("s"), True)
        self.assertIs(Simple([(0, 0), (0, 1), (1, 0), (1, 1)]).shows("nesw"), True)
        self.assertIs(Simple([(0, 0), (0, 1), (1, 0), (1, 1)]).shows("enw"), True)

    def test_places_left_out(self):
        self.assertIs(Simple([]).shows(""), False)
        self.assertIs(Simple([]).shows("n"), False)
        self.assertIs(Simple([(0, 0)]).shows("n"), False)
        self.assertIs(Simple([(0, 1)]).shows("n"), False)
        for k in range(4):
            places = [(0, 0), (0, 1), (1, 0), (1, 1)]
            places.pop(k)
            self.assertIs(Simple(places).shows("nesw"), False)
            self.assertIs(Simple(places).shows("nes"), False)

    def test_places_too_many(self):
        self.assertIs(Simple([(0, 0), (0, 1)]).shows(""), False)
        self.assertIs(Simple([(0, 0), (0, 1), (0, 2)]).shows("n"), False)
        self.assertIs(Simple([(-1, 0), (0, 0), (0, 1)]).shows("n"), False)
        self.assertIs(Simple([(0, 0), (0, 1), (GREAT, GREAT)]).shows("n"), False)

    def test_places_twice(self):
        self.assertIs(Simple([(0, 0), (0, 0)]).shows(""), False)
        self.assertIs(Simple([(0, 0), (0, 0), (0, 1)]).shows("n"), False)
        self.assertIs(Simple([(0, 0), (0, 0), (0, 1)]).shows("ns"), False)
        self.assertIs(Simple([(0, 0), (0, 1), (0, 1)]).shows("n"), False)
        self.assertIs(Simple([(0, 0), (0, 0), (0, 1), (1, 0), (1, 1)]).shows("nesw"), False)

    def test_places_in_another_turn(self):
        self.assertIs(Simple([(0, 1), (0, 0)]).shows("n"), False)
        self.assertIs(Simple([(0, 0), (-1, 0)]).shows("w"), False)
        self.assertIs(Simple([(0, 0), (0, 1), (1, 1), (1, 0)]).shows("nesw"), False)
        self.assertIs(Simple([(0, 0), (1, 0), (0, 1), (1, 1)]).shows("nesw"), False)
        self.assertIs(Simple([(1, 1), (1, 0), (0, 1), (0, 0)]).shows("nesw"), False)

    def test_places_of_another_walk(self):
        self.assertIs(Simple([(0, 0), (0, 1)]).shows("e"), False)
        self.assertIs(Simple([(0, 0), (1, 0)]).shows("n"), False)
        self.assertIs(Simple([(1, 1), (1, 2)]).shows("n"), False)
        self.assertIs(Simple([(0, 0), (0, 1), (1, 1)]).shows("en"), False)

    def test_walks_that_come_to_a_place_twice(self):
        self.assertIs(Simple([(0, 0), (0, 1)]).shows("nsn"), False)
        self.assertIs(Simple([(0, 0), (0, 1)]).shows("nsns"), False)
        self.assertIs(Simple([(0, 0), (0, 0), (0, 1), (0, 1)]).shows("nsns"), False)
        self.assertIs(Simple([(0, 0), (0, 0), (0, 1), (0, 1)]).shows("nsn"), False)
        self.assertIs(Simple([(0, 0), (0, 1), (0, 1), (0, 2)]).shows("nns"), False)

    def test_by_the_field_as_it_stands(self):
        answer = Simple([(0, 0)])
        self.assertIs(answer.shows("n"), False)
        answer.places = [(0, 0), (0, 1)]
        self.assertIs(answer.shows("n"), True)
        self.assertIs(answer.shows(""), False)
        answer.places.append((0, 2))
        self.assertIs(answer.shows("n"), False)
        self.assertIs(answer.shows("nn"), True)
        answer.places.pop()
        self.assertIs(answer.shows("n"), True)
        answer.places[1] = (1, 0)
        self.assertIs(answer.shows("n"), False)
        self.assertIs(answer.shows("e"), True)
        answer.places = []
        self.assertIs(answer.shows("e"), False)

    def test_what_meets_told_and_was_changed(self):
        answer = meets("nesw")
        answer.places.pop()
        self.assertIs(answer.shows("nesw"), False)
        answer.places.append((1, 1))
        self.assertIs(answer.shows("nesw"), True)

    def test_true_and_false_are_no_numbers(self):
        self.assertIs(Simple([(False, False)]).shows(""), False)
        self.assertIs(Simple([(0, 0), (0, True)]).shows("n"), False)
        self.assertIs(Simple([(False, 0), (0, 1)]).shows("n"), False)


class ShowsTwice(unittest.TestCase):
    def test_by_hand(self):
        self.assertIs(Twice(0, 2).shows("nsn"), True)
        self.assertIs(Twice(1, 3).shows("nsn"), True)
        self.assertIs(Twice(1, 3).shows("nns"), True)
        self.assertIs(Twice(0, 4).shows("neswn"), True)
        self.assertIs(Twice(1, 5).shows("neswn"), True)

    def test_any_two_moments_at_one_place(self):
        walk = "nsnsns"
        for first in range(7):
            for second in range(first + 2, 7, 2):
                self.assertIs(Twice(first, second).shows(walk), (first, second) != (0, 6))

    def test_the_last_moment_with_another_than_the_first(self):
        self.assertIs(Twice(2, 4).shows("nsns"), True)
        self.assertIs(Twice(4, 8).shows("neswnesw"), True)
        self.assertIs(Twice(0, 4).shows("neswnesw"), True)

    def test_the_first_and_the_last_moment(self):
        for walk in ("ns", "nesw", "nsns", "neswnesw"):
            self.assertIs(Twice(0, len(walk)).shows(walk), False)
            self.assertIs(Twice(0, len(walk)).shows(walk + "n"), True)
        self.assertIs(Twice(0, 0).shows(""), False)

    def test_moments_that_are_equal(self):
        for walk in ("", "n", "ns", "nsn", "nesw"):
            for moment in range(-2, len(walk) + 2):
                self.assertIs(Twice(moment, moment).shows(walk), False)

    def test_moments_in_the_wrong_turn(self):
        self.assertIs(Twice(2, 0).shows("nsn"), False)
        self.assertIs(Twice(3, 1).shows("nns"), False)
        self.assertIs(Twice(4, 0).shows("neswn"), False)
        self.assertIs(Twice(4, 0).shows("nesw"), False)

    def test_moments_below_0(self):
        for first in (-1, -2, -3, -4, -GREAT):
            for second in (-3, -2, -1, 0, 1, 2, 3):
                self.assertIs(Twice(first, second).shows("nsn"), False)
                self.assertIs(Twice(first, second).shows("nsns"), False)

    def test_moments_beyond_the_end(self):
        for first in (0, 1, 2, 3, 4, 5, 6, GREAT):
            for second in (4, 5, 6, 8, 100, GREAT, GREAT + 1):
                self.assertIs(Twice(first, second).shows("nsn"), False)
        self.assertIs(Twice(1, 5).shows("nesw"), False)
        self.assertIs(Twice(0, 1).shows(""), False)

    def test_moments_at_two_places(self):
        self.assertIs(Twice(0, 1).shows("nsn"), False)
        self.assertIs(Twice(1, 2).shows("nsn"), False)
        self.assertIs(Twice(0, 3).shows("nsn"), False)
        self.assertIs(Twice(0, 2).shows("nns"), False)
        self.assertIs(Twice(1, 3).shows("nesw"), False)

    def test_by_the_fields_as_they_stand(self):
        answer = Twice(0, 2)
        self.assertIs(answer.shows("nns"), False)
        answer.first = 1
        self.assertIs(answer.shows("nns"), False)
        answer.second = 3
        self.assertIs(answer.shows("nns"), True)
        answer.first = 3
        answer.second = 1
        self.assertIs(answer.shows("nns"), False)
        answer = meets("nns")
        answer.second = 2
        self.assertIs(answer.shows("nns"), False)

    def test_long_walks(self):
        walk = "n" * 40000 + "s" * 40000
        self.assertIs(Twice(39999, 40001).shows(walk), True)
        self.assertIs(Twice(1, 79999).shows(walk), True)
        self.assertIs(Twice(0, 80000).shows(walk), False)
        self.assertIs(Twice(1, 80000).shows(walk), False)
        self.assertIs(Twice(0, 80000).shows(walk + "e"), True)

    def test_true_and_false_are_no_numbers(self):
        self.assertIs(Twice(False, 2).shows("nsn"), False)
        self.assertIs(Twice(True, 3).shows("nsn"), False)
        answer = meets("nns")
        answer.first = True
        self.assertIs(answer.shows("nns"), False)


if __name__ == "__main__":
    unittest.main()

import unittest

from squarewalk import errors
from squarewalk.errors import BadNumber, BadWalk, NotClosed, NotSimple, WalkError


class Errors(unittest.TestCase):
    def test_walk_error_is_straight_under_value_error(self):
        self.assertEqual(WalkError.__bases__, (ValueError,))

    def test_each_refusal_is_straight_under_walk_error(self):
        for refusal in (BadWalk, BadNumber, NotClosed, NotSimple):
            with self.subTest(refusal.__name__):
                self.assertEqual(refusal.__bases__, (WalkError,))

    def test_names(self):
        for name in ("WalkError", "BadWalk", "BadNumber", "NotClosed", "NotSimple"):
            self.assertEqual(getattr(errors, name).__name__, name)

    def test_refusals_are_five_classes(self):
        self.assertEqual(len({WalkError, BadWalk, BadNumber, NotClosed, NotSimple}), 5)

    def test_each_can_be_raised_with_words(self):
        for refusal in (WalkError, BadWalk, BadNumber, NotClosed, NotSimple):
            with self.subTest(refusal.__name__):
                with self.assertRaises(ValueError) as caught:
                    raise refusal("words")
                self.assertEqual(str(caught.exception), "words")


if __name__ == "__main__":
    unittest.main()

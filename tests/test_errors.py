import unittest

from evenyoke import errors

NAMES = ["NoPart", "NoName", "Twice", "TooMany", "NoWork", "NoHand", "NoChore", "NotSo", "NoDeed", "NoLine"]


class TestErrors(unittest.TestCase):
    def test_every_refusal_is_straight_under_yoke_error(self):
        for name in NAMES:
            self.assertEqual(getattr(errors, name).__bases__, (errors.YokeError,), name)

    def test_yoke_error_is_straight_under_value_error(self):
        self.assertEqual(errors.YokeError.__bases__, (ValueError,))

    def test_each_refusal_is_raised_with_words_and_without(self):
        for name in NAMES:
            refusal = getattr(errors, name)
            with self.assertRaises(errors.YokeError):
                raise refusal("words")
            with self.assertRaises(ValueError):
                raise refusal

    def test_no_refusal_is_taken_for_another(self):
        for one in NAMES:
            for other in NAMES:
                same = issubclass(getattr(errors, one), getattr(errors, other))
                self.assertEqual(same, one == other, (one, other))


if __name__ == "__main__":
    unittest.main()

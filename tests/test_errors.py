import unittest

from dullglass import errors

NAMES = ["NoShare", "NoGlass", "NoDulling", "NoFit", "NoBeliefs", "TooMany", "NoText", "NoRow", "NoName", "Full"]


class TestErrors(unittest.TestCase):
    def test_all_are_there(self):
        for name in NAMES:
            kind = getattr(errors, name)
            self.assertTrue(issubclass(kind, errors.GlassError), name)
            self.assertTrue(issubclass(kind, ValueError), name)

    def test_the_base_is_a_value_error_and_none_of_the_ten(self):
        self.assertTrue(issubclass(errors.GlassError, ValueError))
        for name in NAMES:
            self.assertFalse(issubclass(errors.GlassError, getattr(errors, name)), name)

    def test_none_stands_under_another_one(self):
        for one in NAMES:
            for other in NAMES:
                under = issubclass(getattr(errors, one), getattr(errors, other))
                self.assertEqual(under, one == other, (one, other))

    def test_raised_with_words_and_taken_by_the_base(self):
        for name in NAMES:
            with self.assertRaises(errors.GlassError) as caught:
                raise getattr(errors, name)("why")
            self.assertEqual(str(caught.exception), "why")


if __name__ == "__main__":
    unittest.main()

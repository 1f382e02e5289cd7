import unittest

from reelhall.errors import NoMove, NoPart, ReelError


class ErrorsTest(unittest.TestCase):
    def test_any_refusal_is_a_value_error(self):
        self.assertTrue(issubclass(ReelError, ValueError))

    def test_each_refusal_stands_below_reel_error(self):
        self.assertTrue(issubclass(NoPart, ReelError))
        self.assertTrue(issubclass(NoMove, ReelError))
        self.assertIsNot(NoPart, ReelError)
        self.assertIsNot(NoMove, ReelError)

    def test_neither_stands_below_the_other(self):
        self.assertFalse(issubclass(NoPart, NoMove))
        self.assertFalse(issubclass(NoMove, NoPart))

    def test_they_are_raised_and_taken_with_their_words(self):
        for error in (ReelError, NoPart, NoMove):
            with self.subTest(error=error), self.assertRaises(ReelError) as taken:
                raise error("some words")
            self.assertEqual(str(taken.exception), "some words")


if __name__ == "__main__":
    unittest.main()

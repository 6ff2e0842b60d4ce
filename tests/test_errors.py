import unittest

from laidwords.errors import BadBook, BadNote, BadOrder, BadWord, LayError

REFUSALS = (BadBook, BadWord, BadOrder, BadNote)


class ErrorClasses(unittest.TestCase):
    def test_lay_error_stands_under_value_error(self):
        self.assertTrue(issubclass(LayError, ValueError))

    def test_each_refusal_stands_under_lay_error(self):
        for refusal in REFUSALS:
            with self.subTest(refusal=refusal.__name__):
                self.assertTrue(issubclass(refusal, LayError))
                self.assertIsNot(refusal, LayError)

    def test_no_refusal_stands_under_another(self):
        for one in REFUSALS:
            for other in REFUSALS:
                if one is not other:
                    with self.subTest(one=one.__name__, other=other.__name__):
                        self.assertFalse(issubclass(one, other))

    def test_lay_error_stands_under_no_refusal(self):
        for refusal in REFUSALS:
            self.assertFalse(issubclass(LayError, refusal))

    def test_there_are_four_refusals_under_their_names(self):
        names = [refusal.__name__ for refusal in REFUSALS]
        self.assertEqual(names, ["BadBook", "BadWord", "BadOrder", "BadNote"])
        self.assertEqual(len(set(REFUSALS)), 4)

    def test_each_is_raised_and_taken_as_a_lay_error(self):
        for refusal in REFUSALS:
            with self.assertRaises(LayError) as taken:
                raise refusal("words")
            self.assertIs(type(taken.exception), refusal)


if __name__ == "__main__":
    unittest.main()

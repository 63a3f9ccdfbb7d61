"""The four refusals and what they stand under."""

import unittest

from standstill.errors import BadName, NoRow, NoThing, StillError, Wide

REFUSALS = (NoRow, BadName, Wide, NoThing)


class Errors(unittest.TestCase):
    def test_any_refusal_is_a_value_error(self):
        self.assertTrue(issubclass(StillError, ValueError))
        with self.assertRaises(ValueError):
            raise StillError("words")

    def test_each_is_taken_as_still_error_and_as_value_error(self):
        for refusal in REFUSALS:
            for taken in (refusal, StillError, ValueError):
                with self.subTest(refusal=refusal, taken=taken):
                    with self.assertRaises(taken):
                        raise refusal("words")

    def test_none_is_taken_as_another_one(self):
        for refusal in REFUSALS:
            others = tuple(other for other in REFUSALS if other is not refusal)
            with self.subTest(refusal=refusal):
                try:
                    raise refusal("words")
                except others:
                    self.fail("taken as another one")
                except refusal:
                    pass

    def test_the_common_one_is_none_of_the_four(self):
        for refusal in REFUSALS:
            self.assertFalse(issubclass(StillError, refusal))

    def test_words_are_kept(self):
        for refusal in REFUSALS:
            self.assertEqual(str(refusal("some words")), "some words")


if __name__ == "__main__":
    unittest.main()

"""Marks and sets [4]; what is handed in and told [2]."""

import itertools
import unittest

from standstill.marks import marks, numbers


class Marks(unittest.TestCase):
    def test_no_things_at_all(self):
        self.assertEqual(marks(0, []), [])
        self.assertEqual(numbers([]), [])

    def test_an_empty_list(self):
        self.assertEqual(marks(3, []), [False, False, False])
        self.assertEqual(numbers([False, False, False]), [])

    def test_some_things(self):
        self.assertEqual(marks(4, [1, 3]), [False, True, False, True])
        self.assertEqual(numbers([False, True, False, True]), [1, 3])

    def test_first_and_last_thing(self):
        self.assertEqual(marks(3, [0]), [True, False, False])
        self.assertEqual(marks(3, [2]), [False, False, True])
        self.assertEqual(numbers([True, False, False]), [0])
        self.assertEqual(numbers([False, False, True]), [2])

    def test_all_things(self):
        self.assertEqual(marks(3, [0, 1, 2]), [True, True, True])
        self.assertEqual(numbers([True, True, True]), [0, 1, 2])

    def test_any_order_and_some_twice(self):
        asked = [True, False, True, True]
        self.assertEqual(marks(4, [3, 0, 2]), asked)
        self.assertEqual(marks(4, [2, 3, 2, 0, 3, 3]), asked)
        for order in itertools.permutations([0, 2, 2, 3]):
            self.assertEqual(marks(4, list(order)), asked)

    def test_marks_are_truths(self):
        for truth in marks(3, [1, 1]):
            self.assertIs(type(truth), bool)

    def test_there_and_back(self):
        for truths in itertools.product([False, True], repeat=5):
            some = numbers(list(truths))
            self.assertEqual(some, sorted(set(some)))
            self.assertEqual(marks(5, some), list(truths))
            self.assertEqual(numbers(marks(5, some[::-1] + some)), some)

    def test_many_things(self):
        some = list(range(0, 402, 3))
        self.assertEqual(numbers(marks(402, some[::-1])), some)

    def test_lists_are_told(self):
        self.assertIs(type(marks(2, [0])), list)
        self.assertIs(type(numbers([True, False])), list)


class HandedInAndTold(unittest.TestCase):
    def test_what_is_handed_in_stays(self):
        some = [2, 0, 2]
        truths = [True, False, True]
        marks(3, some)
        numbers(truths)
        self.assertEqual(some, [2, 0, 2])
        self.assertEqual(truths, [True, False, True])

    def test_told_lists_hang_on_nothing(self):
        some = [0]
        first = marks(2, some)
        some.append(1)
        self.assertEqual(first, [True, False])
        first[1] = True
        self.assertEqual(marks(2, [0]), [True, False])
        truths = [True, True]
        told = numbers(truths)
        truths[0] = False
        self.assertEqual(told, [0, 1])
        told.clear()
        self.assertEqual(numbers([True, True]), [0, 1])


if __name__ == "__main__":
    unittest.main()

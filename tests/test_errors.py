"""The interface's section cupdraw/errors.py."""

import unittest

from cupdraw import errors
from cupdraw.errors import CupError, NoPairing

NAMES = (
    "NoGame", "NoRule", "NoSize", "NotDue", "NoPairing",
    "Uneven", "NoNumber", "NoText", "NoRow", "NoName",
)


def refusals():
    return [getattr(errors, name) for name in NAMES]


class Refusals(unittest.TestCase):

    def test_any_refusal_is_a_value_error(self):
        self.assertEqual(CupError.__bases__, (ValueError,))

    def test_each_stands_straight_under_the_one_for_all(self):
        for refusal in refusals():
            with self.subTest(refusal=refusal.__name__):
                self.assertEqual(refusal.__bases__, (CupError,))

    def test_none_stands_under_another_one(self):
        for one in refusals():
            for other in refusals():
                with self.subTest(one=one.__name__, other=other.__name__):
                    self.assertEqual(issubclass(one, other), one is other)

    def test_there_are_ten_unlike_ones_called_as_promised(self):
        self.assertEqual(len(set(refusals())), 10)
        self.assertEqual([refusal.__name__ for refusal in refusals()], list(NAMES))

    def test_each_is_raised_and_taken_by_the_one_for_all(self):
        for refusal in refusals():
            values = ([], []) if refusal is NoPairing else ("words",)
            with self.subTest(refusal=refusal.__name__), self.assertRaises(CupError):
                raise refusal(*values)


class NoPairingValues(unittest.TestCase):

    def test_few_and_heaps_are_there_when_it_is_made(self):
        error = NoPairing([1], [[0], [2], [3, 4, 5]])
        self.assertEqual(error.few, [1])
        self.assertEqual(error.heaps, [[0], [2], [3, 4, 5]])
        self.assertIs(type(error.few), list)
        self.assertIs(type(error.heaps), list)
        self.assertTrue(all(type(heap) is list for heap in error.heaps))

    def test_no_few(self):
        error = NoPairing([], [[0], [1]])
        self.assertEqual((error.few, error.heaps), ([], [[0], [1]]))

    def test_they_are_there_when_it_is_taken(self):
        with self.assertRaises(CupError) as taken:
            raise NoPairing([2], [[0], [1], [3]])
        self.assertEqual((taken.exception.few, taken.exception.heaps), ([2], [[0], [1], [3]]))

    def test_lists_changed_afterwards_change_nothing(self):
        few, heaps = [1], [[0], [2], [3]]
        error = NoPairing(few, heaps)
        words = str(error)
        few.append(9)
        heaps[0].append(9)
        heaps.append([9])
        self.assertEqual((error.few, error.heaps), ([1], [[0], [2], [3]]))
        self.assertEqual(str(error), words)

    def test_what_the_asker_does_to_them_changes_nothing_handed_in(self):
        few, heaps = [1], [[0], [2], [3]]
        error = NoPairing(few, heaps)
        error.few.append(9)
        error.heaps[0].append(9)
        error.heaps.append([9])
        self.assertEqual((few, heaps), ([1], [[0], [2], [3]]))

    def test_no_two_places_hold_one_list(self):
        heap = [0]
        error = NoPairing(heap, [heap, heap])
        self.assertIsNot(error.heaps[0], error.heaps[1])
        self.assertIsNot(error.few, error.heaps[0])

    def test_two_errors_share_no_list(self):
        few, heaps = [1], [[0], [2], [3]]
        one, other = NoPairing(few, heaps), NoPairing(few, heaps)
        one.few.append(9)
        one.heaps[0].append(9)
        self.assertEqual((other.few, other.heaps), ([1], [[0], [2], [3]]))


if __name__ == "__main__":
    unittest.main()

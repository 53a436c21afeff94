"""Promise 15: the slots of a tree."""

import unittest
import unittest.mock

from cupdraw.errors import CupError, NoSize
from cupdraw.slots import slots_of

SIZES = range(1, 17)

BY_HAND = {
    1: [0],
    2: [0, 1],
    3: [0, None, 1, 2],
    4: [0, 3, 1, 2],
    5: [0, None, 3, 4, 1, None, 2, None],
    6: [0, None, 3, 4, 1, None, 2, 5],
    7: [0, None, 3, 4, 1, 6, 2, 5],
    8: [0, 7, 3, 4, 1, 6, 2, 5],
    9: [0, None, 7, 8, 3, None, 4, None, 1, None, 6, None, 2, None, 5, None],
    10: [0, None, 7, 8, 3, None, 4, None, 1, None, 6, 9, 2, None, 5, None],
    11: [0, None, 7, 8, 3, None, 4, None, 1, None, 6, 9, 2, None, 5, 10],
    12: [0, None, 7, 8, 3, None, 4, 11, 1, None, 6, 9, 2, None, 5, 10],
    13: [0, None, 7, 8, 3, 12, 4, 11, 1, None, 6, 9, 2, None, 5, 10],
    14: [0, None, 7, 8, 3, 12, 4, 11, 1, None, 6, 9, 2, 13, 5, 10],
    15: [0, None, 7, 8, 3, 12, 4, 11, 1, 14, 6, 9, 2, 13, 5, 10],
    16: [0, 15, 7, 8, 3, 12, 4, 11, 1, 14, 6, 9, 2, 13, 5, 10],
}

NO_SIZES = (
    None, True, False, "", "1", "4", "16", 1.0, 4.0, 4.5, b"4", [], [1], [4], [[4]], (), (1,), (4,), {}, {4: 4}, {4},
    object(), int, range(4), len, unittest.mock.ANY,
)


def plain_slots(n):
    """The slots, doubled as 15 tells it."""
    row = [0]
    while len(row) < n:
        double = 2 * len(row)
        row = [number for slot in row for number in (slot, double - 1 - slot)]
    return [None if number >= n else number for number in row]


class Slots(unittest.TestCase):

    def test_by_hand(self):
        self.assertEqual(sorted(BY_HAND), list(SIZES))
        for n, slots in BY_HAND.items():
            with self.subTest(n=n):
                self.assertEqual(slots_of(n), slots)

    def test_as_told_for_all_sizes(self):
        for n in SIZES:
            self.assertEqual(slots_of(n), plain_slots(n))

    def test_each_player_once_and_nobody_beside_nobody(self):
        for n in SIZES:
            slots = slots_of(n)
            players = [player for player in slots if player is not None]
            self.assertEqual(sorted(players), list(range(n)))
            self.assertEqual(len(slots), 1 << (n - 1).bit_length())
            for one, other in zip(slots[::2], slots[1::2]):
                self.assertNotEqual((one, other), (None, None))

    def test_the_kinds(self):
        for n in SIZES:
            self.assertIs(type(slots_of(n)), list)
            self.assertLessEqual({type(player) for player in slots_of(n)}, {int, type(None)})

    def test_told_lists_are_the_askers_own(self):
        for n in SIZES:
            first, second = slots_of(n), slots_of(n)
            first.append(99)
            first[0] = 98
            self.assertEqual(second, BY_HAND[n])
            self.assertEqual(slots_of(n), BY_HAND[n])


class Refused(unittest.TestCase):

    def test_too_few_or_too_many(self):
        for n in (0, -1, -2, -15, -16, 17, 18, 32, 100, 10 ** 30, -10 ** 30, 10 ** 5000):
            self.check_refused(n)

    def test_things_of_any_kind(self):
        for thing in NO_SIZES:
            self.check_refused(thing)

    def check_refused(self, thing):
        with self.assertRaises(CupError) as taken:
            slots_of(thing)
        self.assertIs(type(taken.exception), NoSize)


if __name__ == "__main__":
    unittest.main()

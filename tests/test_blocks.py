"""Promises 19 and 20: a greatest pairing, and the block; and what 2, 3 and 4 promise of them."""

import itertools
import random
import unittest

from cupdraw.blocks import block_of, greatest
from cupdraw.pairings import cheapest


def pairs_of(count):
    return list(itertools.combinations(range(count), 2))


def ring(players):
    return sorted(tuple(sorted(pair)) for pair in zip(players, players[1:] + players[:1]))


def row(players):
    return sorted(tuple(sorted(pair)) for pair in zip(players, players[1:]))


def star(middle, others):
    return sorted(tuple(sorted((middle, other))) for other in others)


def two_parts(ones, others):
    return sorted(tuple(sorted(pair)) for pair in itertools.product(ones, others))


TRIANGLES = ring([1, 8, 9]) + ring([2, 3, 7]) + ring([4, 5, 6])

# The count, the allowed pairs, how many pairs a greatest pairing has, the few, the heaps.
BY_HAND = (
    (0, [], 0, [], []),
    (1, [], 0, [], [[0]]),
    (2, [], 0, [], [[0], [1]]),
    (2, [(0, 1)], 1, [], []),
    (3, [(0, 1)], 1, [], [[2]]),
    (3, [(1, 2)], 1, [], [[0]]),
    (3, row([0, 1, 2]), 1, [1], [[0], [2]]),
    (3, row([1, 0, 2]), 1, [0], [[1], [2]]),
    (3, pairs_of(3), 1, [], [[0, 1, 2]]),
    (4, row([0, 1, 2, 3]), 2, [], []),
    (4, star(2, [0, 1, 3]), 1, [2], [[0], [1], [3]]),
    (4, ring([0, 1, 2]), 1, [], [[0, 1, 2], [3]]),
    # Here the third of the ring has one more to meet, and nobody is left out.
    (4, ring([0, 1, 2]) + [(2, 3)], 2, [], []),
    (5, row([0, 1, 2, 3, 4]), 2, [1, 3], [[0], [2], [4]]),
    (5, row([4, 0, 3, 1, 2]), 2, [0, 1], [[2], [3], [4]]),
    (5, ring([0, 1, 2, 3, 4]), 2, [], [[0, 1, 2, 3, 4]]),
    (5, ring([0, 2, 4]) + [(1, 3)], 2, [], [[0, 2, 4]]),
    (5, two_parts([0, 1], [2, 3, 4]), 2, [0, 1], [[2], [3], [4]]),
    (6, ring([0, 1, 2, 3, 4, 5]), 3, [], []),
    # Two rings of three, and one between them.
    (7, ring([0, 1, 2]) + ring([4, 5, 6]) + [(2, 3), (3, 4)], 3, [3], [[0, 1, 2], [4, 5, 6]]),
    # A ring of three at the end of a row.
    (7, ring([0, 1, 2]) + row([2, 3, 4, 5, 6]), 3, [3, 5], [[0, 1, 2], [4], [6]]),
    # One of the few meets one who is never left out; and here below the few meet one another, too.
    (8, star(0, [1, 2, 3, 4, 5, 6]) + [(6, 7)], 2, [0], [[1], [2], [3], [4], [5]]),
    (8, sorted(two_parts([0, 1], [2, 3, 4, 5]) + [(0, 1), (1, 6), (6, 7)]), 3, [0, 1], [[2], [3], [4], [5]]),
    # The heaps stand by their least players, whatever their sizes and their other players are.
    (10, sorted(TRIANGLES + star(0, [9, 7, 6])), 4, [0], [[1, 8, 9], [2, 3, 7], [4, 5, 6]]),
    (10, sorted(TRIANGLES), 3, [], [[0], [1, 8, 9], [2, 3, 7], [4, 5, 6]]),
    (10, sorted(ring([0, 9, 1, 8, 2]) + star(3, [4, 5, 9])), 3, [3], [[0, 1, 2, 8, 9], [4], [5], [6], [7]]),
)


def all_pairings(pairs):
    """Every choice of pairs in which nobody comes twice."""
    if not pairs:
        return [[]]
    without = all_pairings(pairs[1:])
    fitting = all_pairings([pair for pair in pairs[1:] if not set(pair) & set(pairs[0])])
    return without + [[pairs[0]] + rest for rest in fitting]


def greatest_ones(allowed):
    found = all_pairings(sorted(allowed))
    most = max(len(pairs) for pairs in found)
    return [pairs for pairs in found if len(pairs) == most]


def plain_heaps(left, allowed):
    """Heaps of one each, put together as long as an allowed pair joins two of them."""
    heaps = [{player} for player in left]
    for pair in allowed:
        if set(pair) <= set(left):
            touched = [heap for heap in heaps if heap & set(pair)]
            heaps = [heap for heap in heaps if heap not in touched] + [set().union(*touched)]
    return sorted(sorted(heap) for heap in heaps)


def plain_block(count, allowed):
    everybody = set(range(count))
    left = set()
    for pairs in greatest_ones(allowed):
        left |= everybody - set(sum(pairs, ()))
    few = sorted(player for player in everybody - left if any(player in pair and set(pair) & left for pair in allowed))
    return few, plain_heaps(left, allowed)


def graphs():
    """Counts and allowed pairs: all choices for few players, many for more."""
    for count in range(6):
        for size in range(len(pairs_of(count)) + 1):
            for pairs in itertools.combinations(pairs_of(count), size):
                yield count, list(pairs)
    chance = random.Random(19)
    for count, times in ((6, 150), (7, 100), (8, 60), (9, 30), (10, 20)):
        for _ in range(times):
            # With about as many pairs as players there are few and heaps of many sizes.
            share = chance.choice((1, 2, 3)) / count
            pairs = [pair for pair in pairs_of(count) if chance.random() < share]
            yield count, chance.sample(pairs, len(pairs))


def more_graphs():
    chance = random.Random(20)
    for _ in range(150):
        count = chance.randrange(11)
        share = chance.choice((0.1, 0.2, 0.3, 0.5, 0.9))
        yield count, [pair for pair in pairs_of(count) if chance.random() < share]


class Greatest(unittest.TestCase):

    def check(self, count, allowed, size):
        pairs = greatest(count, allowed)
        self.assertEqual(len(pairs), size)
        self.assertEqual(len(set(sum(pairs, ()))), 2 * size)
        self.assertLessEqual(set(pairs), set(allowed))
        self.assertEqual(pairs, sorted(pairs))
        self.assertEqual(greatest(count, list(allowed)), pairs)

    def test_by_hand(self):
        for count, allowed, size, few, heaps in BY_HAND:
            with self.subTest(count=count, allowed=allowed):
                self.check(count, allowed, size)

    def test_held_against_all_pairings(self):
        for count, allowed in graphs():
            with self.subTest(count=count, allowed=allowed):
                self.check(count, allowed, len(greatest_ones(allowed)[0]))

    def test_no_allowed_pairs(self):
        for count in range(11):
            self.check(count, [], 0)

    def test_all_pairs(self):
        for count in range(11):
            self.check(count, pairs_of(count), count // 2)

    def test_rings_and_rows(self):
        chance = random.Random(21)
        for count in range(3, 11):
            for _ in range(5):
                players = chance.sample(range(count), count)
                self.check(count, ring(players), count // 2)
                self.check(count, row(players), count // 2)

    def test_stars(self):
        for count in range(2, 11):
            for middle in range(count):
                self.check(count, star(middle, [player for player in range(count) if player != middle]), 1)

    def test_two_parts(self):
        for count in range(2, 11):
            for size in range(1, count):
                allowed = two_parts(range(size), range(size, count))
                self.check(count, allowed, min(size, count - size))

    def test_the_only_greatest_one(self):
        pairs = [(0, 9), (1, 8), (2, 7), (3, 6), (4, 5)]
        for size in range(6):
            self.assertEqual(greatest(10, pairs[:size][::-1]), pairs[:size])
        self.assertEqual(greatest(4, [(0, 1), (1, 2), (2, 3)]), [(0, 1), (2, 3)])
        self.assertEqual(greatest(4, [(0, 2), (0, 3), (1, 2)]), [(0, 3), (1, 2)])

    def test_somewhat_beyond_the_bounds(self):
        self.check(11, pairs_of(11), 5)
        self.check(12, ring(list(range(12))), 6)
        self.check(12, star(5, [0, 11]), 1)

    def test_the_kinds(self):
        pairs = greatest(5, pairs_of(5))
        self.assertIs(type(pairs), list)
        for pair in pairs:
            self.assertIs(type(pair), tuple)
            self.assertEqual([type(player) for player in pair], [int, int])


class Block(unittest.TestCase):

    def test_by_hand(self):
        for count, allowed, size, few, heaps in BY_HAND:
            with self.subTest(count=count, allowed=allowed):
                self.assertEqual(block_of(count, allowed), (few, heaps))
                self.assertEqual(block_of(count, allowed[::-1]), (few, heaps))

    def test_held_against_all_greatest_pairings(self):
        for count, allowed in graphs():
            with self.subTest(count=count, allowed=allowed):
                self.assertEqual(block_of(count, allowed), plain_block(count, allowed))

    def test_no_allowed_pairs(self):
        for count in range(11):
            self.assertEqual(block_of(count, []), ([], [[player] for player in range(count)]))

    def test_all_pairs(self):
        for count in range(11):
            self.assertEqual(block_of(count, pairs_of(count)), ([], [list(range(count))] if count % 2 else []))

    def test_rings(self):
        chance = random.Random(22)
        for count in range(3, 11):
            for _ in range(5):
                players = chance.sample(range(count), count)
                self.assertEqual(block_of(count, ring(players)), ([], [list(range(count))] if count % 2 else []))

    def test_rows(self):
        for count in range(1, 11):
            few, heaps = list(range(1, count, 2)), [[player] for player in range(0, count, 2)]
            self.assertEqual(block_of(count, row(list(range(count)))), (few, heaps) if count % 2 else ([], []))

    def test_stars(self):
        for count in range(3, 11):
            for middle in range(count):
                others = [player for player in range(count) if player != middle]
                self.assertEqual(block_of(count, star(middle, others)), ([middle], [[other] for other in others]))

    def test_two_parts(self):
        for count in range(2, 11):
            for size in range(1, count):
                allowed = two_parts(range(size), range(size, count))
                parts = sorted([list(range(size)), list(range(size, count))], key=len)
                block = ([], []) if 2 * size == count else (parts[0], [[player] for player in parts[1]])
                self.assertEqual(block_of(count, allowed), block)

    def test_what_it_shows(self):
        for count, allowed in more_graphs():
            with self.subTest(count=count, allowed=allowed):
                few, heaps = block_of(count, allowed)
                everybody = few + sum(heaps, [])
                self.assertEqual(len(set(everybody)), len(everybody))
                self.assertLessEqual(set(everybody), set(range(count)))
                self.assertEqual(few, sorted(few))
                self.assertEqual(heaps, sorted(sorted(heap) for heap in heaps))
                for heap in heaps:
                    self.assertEqual(len(heap) % 2, 1)
                    for pair in allowed:
                        if set(pair) & set(heap):
                            self.assertLessEqual(set(pair), set(heap) | set(few))
                self.assertEqual(count - 2 * len(greatest(count, allowed)), len(heaps) - len(few))

    def test_where_there_is_no_whole_pairing_there_are_more_heaps_than_few(self):
        for count, allowed in more_graphs():
            few, heaps = block_of(count, allowed)
            whole = cheapest(count, dict.fromkeys(allowed, (0, 0, 0)))
            self.assertEqual(len(heaps) > len(few), whole is None)
            if whole is not None:
                self.assertEqual((few, heaps), ([], []))

    def test_somewhat_beyond_the_bounds(self):
        self.assertEqual(block_of(11, pairs_of(11)), ([], [list(range(11))]))
        self.assertEqual(block_of(12, pairs_of(12)), ([], []))
        self.assertEqual(block_of(12, pairs_of(11)), ([], [list(range(11)), [11]]))

    def test_the_kinds(self):
        block = block_of(5, star(0, [1, 2]))
        self.assertIs(type(block), tuple)
        self.assertEqual([type(part) for part in block], [list, list])
        self.assertEqual({type(heap) for heap in block[1]}, {list})
        for player in block[0] + sum(block[1], []):
            self.assertIs(type(player), int)


class HandedInAndTold(unittest.TestCase):

    def test_the_allowed_pairs_handed_in_stay_as_they_were(self):
        for count, allowed in more_graphs():
            before = list(allowed)
            greatest(count, allowed)
            block_of(count, allowed)
            self.assertEqual(allowed, before)

    def test_told_pairings_are_the_askers_own(self):
        allowed = [(2, 3), (0, 1)]
        first, second = greatest(4, allowed), greatest(4, allowed)
        self.assertIsNot(first, second)
        first.clear()
        self.assertEqual(second, [(0, 1), (2, 3)])
        self.assertEqual(greatest(4, allowed), [(0, 1), (2, 3)])
        allowed.pop()
        self.assertEqual(second, [(0, 1), (2, 3)])
        self.assertEqual(greatest(4, allowed), [(2, 3)])
        nobody = greatest(0, [])
        nobody.append((0, 1))
        self.assertEqual(greatest(0, []), [])

    def test_told_blocks_are_the_askers_own(self):
        allowed = star(0, [1, 2, 3])
        first, second = block_of(4, allowed), block_of(4, allowed)
        first[0].clear()
        first[1][0].append(9)
        first[1].pop()
        self.assertEqual(second, ([0], [[1], [2], [3]]))
        self.assertEqual(block_of(4, allowed), ([0], [[1], [2], [3]]))
        allowed.clear()
        self.assertEqual(second, ([0], [[1], [2], [3]]))
        self.assertEqual(block_of(4, allowed), ([], [[0], [1], [2], [3]]))

    def test_no_two_places_hold_one_list(self):
        for count, allowed in more_graphs():
            few, heaps = block_of(count, allowed)
            self.assertIsNot(few, heaps)
            self.assertEqual(len({id(part) for part in [few, heaps] + heaps}), len(heaps) + 2)


if __name__ == "__main__":
    unittest.main()

"""Promise 17: the cheapest whole pairing, and the first of several; and what 2, 3 and 4 promise of it."""

import itertools
import random
import unittest

from cupdraw.pairings import cheapest
from cupdraw.sums import sums_of

MOST = 999999999999

# The count, the prices, the cheapest pairing.
BY_HAND = (
    (0, {}, []),
    (1, {}, None),
    (2, {}, None),
    (2, {(0, 1): (7, 7, 7)}, [(0, 1)]),
    (2, {(0, 1): (-7, 0, 7)}, [(0, 1)]),
    (3, {(0, 1): (1, 1, 1), (0, 2): (1, 1, 1), (1, 2): (1, 1, 1)}, None),
    (4, {(0, 1): (1, 1, 1)}, None),
    (4, {(0, 1): (1, 1, 1), (0, 2): (1, 1, 1), (0, 3): (1, 1, 1)}, None),
    (4, {(0, 1): (1, 1, 1), (0, 2): (1, 1, 1), (1, 2): (1, 1, 1)}, None),
    (4, {(0, 1): (1, 1, 1), (1, 2): (1, 1, 1), (2, 3): (1, 1, 1)}, [(0, 1), (2, 3)]),
    (4, {(1, 2): (1, 1, 1), (0, 3): (1, 1, 1)}, [(0, 3), (1, 2)]),
    # The pair with the least price is in no cheapest pairing.
    (4, {(0, 1): (0, 0, 0), (2, 3): (9, 0, 0), (0, 2): (3, 0, 0), (1, 3): (3, 0, 0)}, [(0, 2), (1, 3)]),
    (4, {(0, 1): (5, 0, 0), (2, 3): (-9, 0, 0), (0, 2): (1, 0, 0), (1, 3): (1, 0, 0)}, [(0, 1), (2, 3)]),
    # Of two with the least sum the first, however it comes about.
    (4, {(0, 1): (5, 0, 0), (2, 3): (0, 0, 0), (0, 2): (2, 0, 0), (1, 3): (3, 0, 0)}, [(0, 1), (2, 3)]),
    (4, {(0, 2): (5, 0, 1), (1, 3): (0, 0, 1), (0, 3): (2, 0, 2), (1, 2): (3, 0, 0)}, [(0, 2), (1, 3)]),
    # Not the one in which the dearest pair is cheapest.
    (4, {(0, 1): (6, 0, 0), (2, 3): (0, 0, 0), (0, 2): (4, 0, 0), (1, 3): (3, 0, 0)}, [(0, 1), (2, 3)]),
)


def pairs_of(count):
    return list(itertools.combinations(range(count), 2))


def whole_pairings(players):
    """All whole pairings of a rising list of players, the first ahead."""
    if not players:
        return [[]]
    found = []
    for other in players[1:]:
        rest = [player for player in players[1:] if player != other]
        found += [[(players[0], other)] + pairs for pairs in whole_pairings(rest)]
    return found


EVERY_ONE = {count: whole_pairings(list(range(count))) if count % 2 == 0 else [] for count in range(11)}


def summed(pairs, prices):
    return tuple(sum(prices[pair][place] for pair in pairs) for place in range(3))


def plain_cheapest(count, prices):
    found = [pairs for pairs in EVERY_ONE[count] if all(pair in prices for pair in pairs)]
    return min(found, key=lambda pairs: (summed(pairs, prices), pairs), default=None)


def some_prices(chance, pairs, most):
    return {pair: tuple(chance.randint(-most, most) for _ in range(3)) for pair in pairs}


class Cheapest(unittest.TestCase):

    def test_the_pairings_it_is_held_against(self):
        self.assertEqual([len(EVERY_ONE[count]) for count in range(0, 11, 2)], [1, 1, 3, 15, 105, 945])
        for count, found in EVERY_ONE.items():
            self.assertEqual(found, sorted(found))
            for pairs in found:
                self.assertEqual(sorted(sum(pairs, ())), list(range(count)))
                self.assertEqual(pairs, sorted(tuple(sorted(pair)) for pair in pairs))

    def test_by_hand(self):
        for count, prices, pairs in BY_HAND:
            with self.subTest(count=count, prices=prices):
                self.assertEqual(cheapest(count, prices), pairs)

    def test_all_choices_of_pairs_of_few_players(self):
        chance = random.Random(17)
        for count in range(5):
            for size in range(len(pairs_of(count)) + 1):
                for pairs in itertools.combinations(pairs_of(count), size):
                    for most in (0, 1, 2, 9, MOST):
                        prices = some_prices(chance, pairs, most)
                        self.assertEqual(cheapest(count, prices), plain_cheapest(count, prices), prices)

    def test_many_choices_of_pairs(self):
        chance = random.Random(18)
        for count, times in ((5, 30), (6, 400), (7, 30), (8, 150), (9, 30), (10, 40)):
            for _ in range(times):
                share = chance.choice((0.3, 0.6, 0.9))
                pairs = [pair for pair in pairs_of(count) if chance.random() < share]
                # Small numbers make many pairings with the same sum.
                prices = some_prices(chance, pairs, chance.choice((0, 1, 2, 9, MOST)))
                self.assertEqual(cheapest(count, prices), plain_cheapest(count, prices), prices)

    def test_all_pairs(self):
        chance = random.Random(19)
        for count in range(11):
            for most in (0, 1, 9, MOST):
                prices = some_prices(chance, pairs_of(count), most)
                self.assertEqual(cheapest(count, prices), plain_cheapest(count, prices), prices)

    def test_each_pairing_can_be_the_cheapest(self):
        for count in (2, 4, 6, 8):
            for pairs in EVERY_ONE[count]:
                for place in range(3):
                    prices = {pair: tuple(int(pair not in pairs and here == place) for here in range(3))
                              for pair in pairs_of(count)}
                    self.assertEqual(cheapest(count, prices), pairs)

    def test_each_pairing_can_be_the_only_one(self):
        for count in (2, 4, 6, 8):
            for pairs in EVERY_ONE[count]:
                self.assertEqual(cheapest(count, dict.fromkeys(pairs, (1, -1, 1))), pairs)

    def test_the_first_unlike_sum_tells(self):
        # The cheaper one is the later one, so that it isn't told for being the first.
        for dear, cheap in (((6, 0, 0), (5, 9, 9)), ((5, 6, 0), (5, 5, 9)), ((5, 5, 6), (5, 5, 5)),
                            ((-5, 0, 0), (-6, 9, 9)), ((0, 0, 0), (0, 0, -1)), ((MOST, 0, 0), (MOST - 1, MOST, MOST))):
            prices = {(0, 1): dear, (2, 3): dear, (0, 3): cheap, (1, 2): cheap}
            self.assertEqual(cheapest(4, prices), [(0, 3), (1, 2)])
            prices = {(0, 1): cheap, (2, 3): cheap, (0, 3): dear, (1, 2): dear}
            self.assertEqual(cheapest(4, prices), [(0, 1), (2, 3)])

    def test_the_first_of_all_with_the_least_sum(self):
        for count in range(0, 11, 2):
            prices = dict.fromkeys(pairs_of(count), (3, 2, 1))
            self.assertEqual(cheapest(count, prices), [(one, one + 1) for one in range(0, count, 2)])

    def test_an_odd_count_has_none(self):
        for count in (1, 3, 5, 7, 9):
            self.assertIsNone(cheapest(count, {}))
            self.assertIsNone(cheapest(count, dict.fromkeys(pairs_of(count), (0, 0, 0))))

    def test_no_prices_at_all(self):
        self.assertEqual(cheapest(0, {}), [])
        for count in range(1, 11):
            self.assertIsNone(cheapest(count, {}))

    def test_no_whole_pairing(self):
        for count in (4, 6, 8, 10):
            star = [pair for pair in pairs_of(count) if pair[0] == 0]
            odd_parts = [pair for pair in pairs_of(count) if pair[1] < 3 or pair[0] >= 3]
            one_is_alone = [pair for pair in pairs_of(count) if pair[1] < count - 1]
            for pairs in (star, odd_parts, one_is_alone):
                self.assertIsNone(cheapest(count, dict.fromkeys(pairs, (1, 1, 1))))

    def test_its_sum_is_that_of_the_table(self):
        chance = random.Random(20)
        for _ in range(100):
            count = chance.randrange(11)
            prices = some_prices(chance, [pair for pair in pairs_of(count) if chance.random() < 0.6], 9)
            pairs = cheapest(count, prices)
            self.assertEqual(None if pairs is None else summed(pairs, prices), sums_of(count, prices)[2 ** count - 1])

    def test_somewhat_beyond_the_bounds(self):
        pairs = [(0, 11), (1, 10), (2, 9), (3, 8), (4, 7), (5, 6)]
        prices = {pair: (-10 ** 14 if pair in pairs else 10 ** 14, 0, 0) for pair in pairs_of(12)}
        self.assertEqual(cheapest(12, prices), pairs)
        self.assertIsNone(cheapest(11, prices))

    def test_the_kinds(self):
        pairs = cheapest(6, dict.fromkeys(pairs_of(6), (1, 2, 3)))
        self.assertIs(type(pairs), list)
        for pair in pairs:
            self.assertIs(type(pair), tuple)
            self.assertEqual([type(player) for player in pair], [int, int])
        self.assertIs(type(cheapest(0, {})), list)


class HandedInAndTold(unittest.TestCase):

    def test_the_prices_handed_in_stay_as_they_were(self):
        chance = random.Random(21)
        for count in range(11):
            prices = some_prices(chance, pairs_of(count)[::-1], 9)
            before = list(prices.items())
            cheapest(count, prices)
            self.assertEqual(list(prices.items()), before)

    def test_the_order_of_the_prices_changes_nothing(self):
        for order in itertools.permutations(pairs_of(4)):
            self.assertEqual(cheapest(4, dict.fromkeys(order, (1, 1, 1))), [(0, 1), (2, 3)])
        chance = random.Random(22)
        for count in range(11):
            for _ in range(10):
                prices = some_prices(chance, pairs_of(count), 1)
                mixed = dict(chance.sample(list(prices.items()), len(prices)))
                self.assertEqual(cheapest(count, mixed), cheapest(count, prices))

    def test_told_lists_are_the_askers_own(self):
        prices = {(0, 1): (1, 2, 3), (2, 3): (4, 5, 6)}
        first, second = cheapest(4, prices), cheapest(4, prices)
        self.assertIsNot(first, second)
        first.clear()
        self.assertEqual(second, [(0, 1), (2, 3)])
        self.assertEqual(cheapest(4, prices), [(0, 1), (2, 3)])
        prices.clear()
        self.assertEqual(second, [(0, 1), (2, 3)])
        self.assertIsNone(cheapest(4, prices))
        nobody = cheapest(0, {})
        nobody.append((0, 1))
        self.assertEqual(cheapest(0, {}), [])


if __name__ == "__main__":
    unittest.main()

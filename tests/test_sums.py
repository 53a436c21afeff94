"""Promise 18: the table of sums; and what 2, 3 and 4 promise of it."""

import itertools
import random
import unittest

from cupdraw.sums import sums_of

NOTHING = (0, 0, 0)
MOST = 999999999999

# The count, the prices, the rows.
BY_HAND = (
    (0, {}, {0: NOTHING}),
    (1, {}, {1: None}),
    (2, {}, {3: None}),
    (2, {(0, 1): (4, -5, 6)}, {3: (4, -5, 6), 0: NOTHING}),
    (2, {(0, 1): (0, 0, 0)}, {3: NOTHING, 0: NOTHING}),
    (3, {}, {7: None}),
    (3, {(1, 2): (1, 1, 1)}, {7: None}),
    (3, {(0, 1): (1, 1, 1)}, {7: None, 4: None}),
    (3, {(0, 2): (1, 1, 1)}, {7: None, 2: None}),
    (3, {(0, 1): (1, 1, 1), (0, 2): (2, 2, 2), (1, 2): (3, 3, 3)}, {7: None, 4: None, 2: None}),
    (4, {}, {15: None}),
    (4, {(0, 1): (1, 2, 3)}, {15: None, 12: None}),
    (4, {(2, 3): (1, 2, 3)}, {15: None}),
    (4, {(0, 3): (1, 2, 3), (1, 2): (10, 20, 30)}, {15: (11, 22, 33), 6: (10, 20, 30), 0: NOTHING}),
    (4, {(0, 1): (1, 0, 0), (2, 3): (2, 0, 0), (0, 2): (5, 5, 5)},
     {15: (3, 0, 0), 12: (2, 0, 0), 10: None, 0: NOTHING}),
    (4, {(0, 1): (9, 0, 0), (0, 2): (8, 0, 0), (0, 3): (7, 0, 0), (1, 2): (3, 0, 0), (1, 3): (1, 0, 0),
         (2, 3): (2, 0, 0)},
     {15: (9, 0, 0), 12: (2, 0, 0), 10: (1, 0, 0), 6: (3, 0, 0), 0: NOTHING}),
    (5, {(0, 1): (1, 1, 1), (2, 3): (1, 1, 1), (3, 4): (1, 1, 1)}, {31: None, 28: None, 16: None}),
    (6, {(0, 1): (1, 1, 1), (2, 3): (2, 2, 2), (4, 5): (-4, 4, 0)},
     {63: (-1, 7, 3), 60: (-2, 6, 2), 48: (-4, 4, 0), 0: NOTHING}),
    (6, {(0, 5): (1, 1, 1), (1, 2): (2, 2, 2), (1, 4): (3, 3, 3), (2, 4): (4, 4, 4)},
     {63: None, 30: None, 24: None, 12: None}),
)


def pairs_of(count):
    return list(itertools.combinations(range(count), 2))


def number_of(players):
    return sum(2 ** player for player in players)


def rows_asked(players, prices):
    """The sets that have a row, as the document tells them, from a set on."""
    asked = {players}
    if players:
        least = min(players)
        for other in players - {least}:
            if (least, other) in prices:
                asked |= rows_asked(players - {least, other}, prices)
    return asked


def all_whole_pairings(players, prices):
    """Every choice of priced pairs gone through that has each of the players just once."""
    within = [pair for pair in prices if set(pair) <= players]
    for chosen in itertools.combinations(within, len(players) // 2):
        if sorted(sum(chosen, ())) == sorted(players):
            yield chosen


def summed(pairs, prices):
    return tuple(sum(prices[pair][place] for pair in pairs) for place in range(3))


def plain_row(players, prices):
    return min((summed(pairs, prices) for pairs in all_whole_pairings(players, prices)), default=None)


def plain_sums(count, prices):
    asked = rows_asked(frozenset(range(count)), prices)
    return {number_of(players): plain_row(players, prices) for players in asked}


def some_prices(chance, pairs, most):
    return {pair: tuple(chance.randint(-most, most) for _ in range(3)) for pair in pairs}


class Rows(unittest.TestCase):

    def test_by_hand(self):
        for count, prices, rows in BY_HAND:
            with self.subTest(count=count, prices=prices):
                self.assertEqual(sums_of(count, prices), rows)

    def test_all_choices_of_pairs_of_few_players(self):
        chance = random.Random(18)
        for count in range(5):
            for size in range(len(pairs_of(count)) + 1):
                for pairs in itertools.combinations(pairs_of(count), size):
                    for most in (0, 1, 9, MOST):
                        prices = some_prices(chance, pairs, most)
                        self.assertEqual(sums_of(count, prices), plain_sums(count, prices), prices)

    def test_many_choices_of_pairs_of_more_players(self):
        chance = random.Random(19)
        for count, times in ((5, 150), (6, 150), (7, 60)):
            for _ in range(times):
                pairs = [pair for pair in pairs_of(count) if chance.random() < chance.choice((0.3, 0.6, 0.9))]
                prices = some_prices(chance, pairs, chance.choice((1, 9, MOST)))
                self.assertEqual(sums_of(count, prices), plain_sums(count, prices), prices)

    def test_few_pairs_of_many_players(self):
        chance = random.Random(20)
        for count in (8, 9, 10):
            for _ in range(40):
                pairs = chance.sample(pairs_of(count), 12)
                # The least players have the pairs that make rows.
                pairs += [pair for pair in pairs_of(count) if pair[0] < 2 and pair not in pairs]
                prices = some_prices(chance, pairs[:16], 20)
                self.assertEqual(sums_of(count, prices), plain_sums(count, prices), prices)

    def test_all_pairs(self):
        chance = random.Random(21)
        for count in range(11):
            prices = some_prices(chance, pairs_of(count), 9)
            rows = sums_of(count, prices)
            self.assertEqual(set(rows), {number_of(players) for players in rows_asked(frozenset(range(count)), prices)})
            for players, row in rows.items():
                self.assertEqual(row is None, players.bit_count() % 2 == 1)
            if count <= 6:
                self.assertEqual(rows, plain_sums(count, prices))

    def test_no_prices_at_all(self):
        for count in range(1, 11):
            self.assertEqual(sums_of(count, {}), {2 ** count - 1: None})

    def test_an_odd_count_has_no_sum(self):
        for count in (1, 3, 5, 7, 9):
            rows = sums_of(count, dict.fromkeys(pairs_of(count), NOTHING))
            self.assertEqual(set(rows.values()), {None})

    def test_each_row_is_out_of_the_rows_that_it_leads_to(self):
        chance = random.Random(22)
        for _ in range(100):
            count = chance.randrange(11)
            pairs = [pair for pair in pairs_of(count) if chance.random() < 0.6]
            prices = some_prices(chance, pairs, 50)
            rows = sums_of(count, prices)
            for players, row in rows.items():
                members = [player for player in range(count) if players & 2 ** player]
                ways = [
                    tuple(map(sum, zip(prices[pair], rows[players - number_of(pair)])))
                    for pair in pairs if pair[0] == min(members, default=None) and pair[1] in members
                    and rows[players - number_of(pair)] is not None
                ]
                self.assertEqual(row, min(ways, default=None) if members else NOTHING)

    def test_the_first_unlike_number_tells_the_least_sum(self):
        last = {(0, 1): (0, 0, 0), (2, 3): (5, 5, 5), (0, 2): (0, 0, 0), (1, 3): (5, 5, 6), (0, 3): (0, 0, 0)}
        for dear, cheap in (((6, 0, 0), (5, 9, 9)), ((5, 6, 0), (5, 5, 9)), ((5, 5, 6), (5, 5, 5))):
            for one, other in itertools.permutations(((2, 3), (1, 3)), 2):
                self.assertEqual(sums_of(4, {**last, one: dear, other: cheap})[15], cheap)

    def test_great_and_negative_numbers(self):
        prices = {(0, 1): (MOST, -MOST, MOST), (2, 3): (MOST, -MOST, -MOST)}
        self.assertEqual(sums_of(4, prices)[15], (2 * MOST, -2 * MOST, 0))
        prices = dict.fromkeys(pairs_of(10), (-MOST, MOST, -MOST))
        self.assertEqual(sums_of(10, prices)[1023], (-5 * MOST, 5 * MOST, -5 * MOST))

    def test_somewhat_beyond_the_bounds(self):
        for count in (11, 12):
            prices = dict.fromkeys(pairs_of(count), (10 ** 14, -10 ** 14, 1))
            row = None if count % 2 else (6 * 10 ** 14, -6 * 10 ** 14, 6)
            self.assertEqual(sums_of(count, prices)[2 ** count - 1], row)

    def test_the_kinds(self):
        rows = sums_of(4, {(0, 1): (1, 2, 3), (2, 3): (1, 2, 3), (0, 2): (1, 2, 3)})
        self.assertIs(type(rows), dict)
        self.assertEqual({type(players) for players in rows}, {int})
        self.assertEqual({type(row) for row in rows.values()}, {tuple, type(None)})
        for row in rows.values():
            self.assertEqual({type(number) for number in row or NOTHING}, {int})
            self.assertEqual(len(row or NOTHING), 3)


class HandedInAndTold(unittest.TestCase):

    def test_the_prices_handed_in_stay_as_they_were(self):
        chance = random.Random(23)
        for count in range(11):
            prices = some_prices(chance, pairs_of(count)[::2], 9)
            before = list(prices.items())
            sums_of(count, prices)
            self.assertEqual(list(prices.items()), before)

    def test_the_order_of_the_prices_changes_nothing(self):
        chance = random.Random(24)
        for count in range(11):
            prices = some_prices(chance, pairs_of(count), 2)
            turned = dict(reversed(prices.items()))
            self.assertEqual(sums_of(count, turned), sums_of(count, prices))

    def test_told_dicts_are_the_askers_own(self):
        prices = {(0, 1): (1, 2, 3), (2, 3): (4, 5, 6)}
        rows = {15: (5, 7, 9), 12: (4, 5, 6), 0: NOTHING}
        first, second = sums_of(4, prices), sums_of(4, prices)
        self.assertIsNot(first, second)
        first.clear()
        first[15] = "changed"
        self.assertEqual(second, rows)
        self.assertEqual(sums_of(4, prices), rows)
        prices[(0, 1)] = (0, 0, 0)
        self.assertEqual(second, rows)
        prices.clear()
        self.assertEqual(second, rows)
        self.assertEqual(sums_of(4, prices), {15: None})


if __name__ == "__main__":
    unittest.main()

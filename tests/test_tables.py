"""Promises 9 and 10: groups, places, and where two were parted."""

import itertools
import random
import unittest

from cupdraw.parters import parter
from cupdraw.rules import Rules
from cupdraw.tables import groups_of, parted_by, places_of

WORDS = ("points", "among", "marks", "gap", "wins", "away", "met")
RULE = (3, 1, 0)

# 0, 1 and 2 have 6 points each. Among the three 0 is ahead, and only between 1 and 2 alone 1 is ahead of 2.
ANEW = (
    (1, 2, 1, 0), (0, 1, 1, 0), (0, 2, 0, 1), (2, 0, 0, 1), (1, 3, 1, 0), (3, 2, 0, 1),
)
# Each of the three won once; by their gaps 2 is behind, and then 0 has won against 1.
RING = ((0, 1, 2, 0), (1, 2, 3, 0), (2, 0, 1, 0))
# Among all four 0 has 9 and the others 6, among these 1 has 6 and the others 3, and 2 has won against 3.
CHAIN = tuple((one, other, 1, 0) for one, other in (
    (2, 3), (3, 1), (1, 2), (1, 3), (2, 0), (3, 0), (0, 1), (0, 2), (0, 3),
))


def rules_of(*words):
    return Rules(RULE, list(words))


def plain_history(rules, games, n):
    """The groups, and for each two who were parted where it was, by parting whatever can be parted over and over."""
    groups, history = [tuple(range(n))], {}
    again = True
    while again:
        again = False
        for group in groups:
            for word in rules.words_of():
                worth = {player: parter(word).worth(rules.rule_of(), games, list(group), player) for player in group}
                if len(set(worth.values())) > 1:
                    break
            else:
                continue
            for one, other in itertools.permutations(group, 2):
                if worth[one] != worth[other]:
                    history[one, other] = (list(group), word, worth[one], worth[other])
            ranked = sorted(group, key=lambda player: (-worth[player], player))
            parts = [tuple(part) for _, part in itertools.groupby(ranked, key=worth.get)]
            place = groups.index(group)
            groups = groups[:place] + parts + groups[place + 1:]
            again = True
            break
    return [list(group) for group in groups], history


def ring_games(players, marks):
    return [(one, other, marks, 0) for one, other in zip(players, players[1:] + players[:1]) if one != other]


def some_games(chance, n):
    """Rings of wins, draws and byes, so that many are equal at first."""
    games = []
    for _ in range(chance.randrange(5)):
        players = chance.sample(range(n), chance.randrange(1, n + 1))
        games += ring_games(players, chance.randrange(1, 3))
    for _ in range(chance.randrange(4) if n > 1 else 0):
        home, away = chance.sample(range(n), 2)
        games.append((home, away, 1, 1) if chance.randrange(2) else (home, away, 0, chance.randrange(3)))
    games += [(chance.randrange(n),) for _ in range(chance.randrange(3))]
    chance.shuffle(games)
    return games[:300]


def some_rules(chance):
    words = chance.sample(WORDS, chance.randrange(1, 8))
    if "among" not in words[:2] and chance.randrange(2):
        words = ["among"] + [word for word in words if word != "among"]
    return Rules(chance.choice((RULE, (2, 1, 0), (1, 1, 0), (1, 0, 0), (5, 2, -1), (-1, -2, -3))), words)


class Groups(unittest.TestCase):

    def test_one_player(self):
        for word in WORDS:
            self.assertEqual(groups_of(rules_of(word), [], 1), [[0]])
            self.assertEqual(groups_of(rules_of(word), [(0,), (0,)], 1), [[0]])

    def test_no_games_part_nobody(self):
        for n in range(1, 17):
            self.assertEqual(groups_of(rules_of(*WORDS), [], n), [list(range(n))])

    def test_the_greatest_worth_goes_ahead(self):
        games = [(0, 1, 0, 1), (2, 0, 3, 3), (3,)]
        self.assertEqual(groups_of(rules_of("points"), games, 4), [[1, 3], [0, 2]])
        self.assertEqual(groups_of(rules_of("marks"), games, 4), [[0, 2], [1], [3]])
        self.assertEqual(groups_of(rules_of("gap"), games, 4), [[1], [2, 3], [0]])
        self.assertEqual(groups_of(rules_of("wins"), games, 4), [[1], [0, 2, 3]])
        self.assertEqual(groups_of(rules_of("away"), games, 4), [[1], [0, 2, 3]])
        self.assertEqual(groups_of(rules_of("met"), games, 4), [[0], [1, 2], [3]])
        self.assertEqual(groups_of(rules_of("among"), games, 4), [[1], [0, 2], [3]])

    def test_the_order_of_the_words_counts(self):
        games = [(0, 1, 1, 0), (2, 3, 9, 9)]
        self.assertEqual(groups_of(rules_of("points", "marks"), games, 4), [[0], [2, 3], [1]])
        self.assertEqual(groups_of(rules_of("marks", "points"), games, 4), [[2, 3], [0], [1]])

    def test_a_part_is_parted_anew_from_the_first_word_on(self):
        self.assertEqual(groups_of(rules_of("points"), ANEW, 4), [[0, 1, 2], [3]])
        self.assertEqual(groups_of(rules_of("points", "among"), ANEW, 4), [[0], [1], [2], [3]])
        self.assertEqual(groups_of(rules_of("among"), ANEW, 4), [[0], [1], [2], [3]])

    def test_an_earlier_word_parts_where_a_later_one_parted(self):
        self.assertEqual(groups_of(rules_of("points", "among"), RING, 3), [[0, 1, 2]])
        self.assertEqual(groups_of(rules_of("among", "gap"), RING, 3), [[0], [1], [2]])
        self.assertEqual(groups_of(rules_of("gap"), RING, 3), [[0, 1], [2]])

    def test_a_ring_that_no_word_parts(self):
        for n in range(3, 17):
            games = [(one, (one + 1) % n, 1, 0) for one in range(n)]
            self.assertEqual(groups_of(rules_of(*WORDS), games, n), [list(range(n))])

    def test_draws_and_byes_part_nobody_where_all_have_like_ones(self):
        for n in range(2, 17):
            games = [(one, (one + 1) % n, 1, 1) for one in range(n)] + [(one,) for one in range(n)]
            self.assertEqual(groups_of(rules_of(*WORDS), games, n), [list(range(n))])

    def test_sixteen_one_by_one(self):
        games = [(one, other, one, other) for one, other in itertools.combinations(range(16), 2)]
        self.assertEqual(groups_of(rules_of("points"), games, 16), [[one] for one in reversed(range(16))])

    def test_a_ring_falls_apart_step_by_step(self):
        games = [(one, other, 1, 0) for one, other in ((0, 1), (1, 2), (2, 3), (3, 4), (4, 0))]
        self.assertEqual(groups_of(rules_of("among"), games, 5), [[0, 1, 2, 3, 4]])
        # A draw puts 0 and 3 ahead; of the others only 1 and 2 have met.
        games.append((3, 0, 1, 1))
        self.assertEqual(groups_of(rules_of("among"), games, 5), [[0, 3], [1], [2, 4]])

    def test_one_after_another_goes_ahead(self):
        self.assertEqual(groups_of(rules_of("among"), CHAIN, 4), [[0], [1], [2], [3]])
        # Those whom they met have 30, 27, 30 and 36 points together, and 0 and 2 won once each against one another.
        self.assertEqual(groups_of(rules_of("met", "among"), CHAIN, 4), [[3], [0, 2], [1]])

    def test_somewhat_more_players(self):
        self.assertEqual(groups_of(rules_of("met", "points"), [(0, 17, 1, 0)], 18), [[17], [0], list(range(1, 17))])
        self.assertEqual(places_of(rules_of("points"), [(16,)], 17), [2] * 16 + [1])


class Places(unittest.TestCase):

    def test_one_more_than_the_players_ahead(self):
        games = [(2,), (2,), (0,), (3,)]
        self.assertEqual(places_of(rules_of("points"), games, 4), [2, 4, 1, 2])
        self.assertEqual(places_of(rules_of("points", "among"), ANEW, 4), [1, 2, 3, 4])
        self.assertEqual(places_of(rules_of("points"), ANEW, 4), [1, 1, 1, 4])

    def test_all_in_one_group(self):
        for n in range(1, 17):
            self.assertEqual(places_of(rules_of(*WORDS), [], n), [1] * n)

    def test_one_by_one_and_in_pairs(self):
        games = [(one,) for one in range(16) for _ in range(one)]
        self.assertEqual(places_of(rules_of("points"), games, 16), list(range(16, 0, -1)))
        pairs = [(one,) for one in range(16) for _ in range(one // 2)]
        self.assertEqual(places_of(rules_of("points"), pairs, 16), [15 - one // 2 * 2 for one in range(16)])


class PartedBy(unittest.TestCase):

    def test_the_group_the_word_and_both_worths(self):
        rules = rules_of("points", "among")
        self.assertEqual(parted_by(rules, ANEW, 4, 0, 3), ([0, 1, 2, 3], "points", 6, 0))
        self.assertEqual(parted_by(rules, ANEW, 4, 3, 0), ([0, 1, 2, 3], "points", 0, 6))
        self.assertEqual(parted_by(rules, ANEW, 4, 0, 2), ([0, 1, 2], "among", 6, 3))
        self.assertEqual(parted_by(rules, ANEW, 4, 2, 0), ([0, 1, 2], "among", 3, 6))
        self.assertEqual(parted_by(rules, ANEW, 4, 1, 2), ([1, 2], "among", 3, 0))
        self.assertEqual(parted_by(rules, ANEW, 4, 2, 1), ([1, 2], "among", 0, 3))

    def test_one_after_another(self):
        rules = rules_of("among")
        steps = (([0, 1, 2, 3], "among", 9, 6), ([1, 2, 3], "among", 6, 3), ([2, 3], "among", 3, 0))
        for one, wanted in enumerate(steps):
            for other in range(one + 1, 4):
                self.assertEqual(parted_by(rules, CHAIN, 4, one, other), wanted)
                self.assertEqual(parted_by(rules, CHAIN, 4, other, one), wanted[:2] + (wanted[3], wanted[2]))

    def test_by_another_word_behind_and_the_first_one_again(self):
        rules = rules_of("among", "gap")
        self.assertEqual(parted_by(rules, RING, 3, 2, 1), ([0, 1, 2], "gap", -2, 1))
        self.assertEqual(parted_by(rules, RING, 3, 0, 1), ([0, 1], "among", 3, 0))

    def test_the_kinds(self):
        told = parted_by(rules_of("points"), [(1,)], 2, 0, 1)
        self.assertEqual([type(part) for part in told], [list, str, int, int])
        self.assertIs(type(told), tuple)

    def test_two_in_one_group(self):
        self.assertIsNone(parted_by(rules_of("points"), ANEW, 4, 0, 2))
        self.assertIsNone(parted_by(rules_of("gap"), RING, 3, 1, 0))
        self.assertIsNone(parted_by(rules_of(*WORDS), [], 16, 0, 15))

    def test_a_player_and_itself(self):
        for player in range(4):
            self.assertIsNone(parted_by(rules_of("points", "among"), ANEW, 4, player, player))
            self.assertIsNone(parted_by(rules_of("points"), ANEW, 4, player, player))
        self.assertIsNone(parted_by(rules_of("points"), [(0,)], 1, 0, 0))


class ManyTables(unittest.TestCase):

    def test_tables_as_by_parting_over_and_over(self):
        chance, deepest = random.Random(11), 0
        for number in range(320):
            n = number % 16 + 1
            rules, games = some_rules(chance), some_games(chance, n)
            groups, history = plain_history(rules, games, n)
            deepest = max([deepest] + [len({len(told[0]) for told in history.values()})])
            with self.subTest(rules=rules.shown(), games=games, n=n):
                self.check(rules, games, n, groups, history)
        # The tables are of use only where some groups were parted again and again.
        self.assertGreaterEqual(deepest, 4)

    def check(self, rules, games, n, groups, history):
        before = list(games)
        self.assertEqual(groups_of(rules, games, n), groups)
        places = places_of(rules, games, n)
        for number, group in enumerate(groups):
            ahead = sum(len(one) for one in groups[:number])
            self.assertEqual([places[player] for player in group], [ahead + 1] * len(group))
        for one, other in itertools.product(range(n), repeat=2):
            self.assertEqual(parted_by(rules, games, n, one, other), history.get((one, other)))
        self.assertEqual(games, before)


class OwnLists(unittest.TestCase):

    def test_told_groups_share_no_list_and_are_new_each_time(self):
        rules, games = rules_of("points", "among"), list(ANEW)
        wanted = [[0], [1], [2], [3]]
        first, second = groups_of(rules, games, 4), groups_of(rules, games, 4)
        for group in first:
            group.append(99)
        first.append(99)
        self.assertEqual(second, wanted)
        self.assertEqual(groups_of(rules, games, 4), wanted)
        self.assertEqual(len({id(group) for group in first[:4] + second}), 8)

    def test_a_group_that_stays_is_the_askers_own_too(self):
        for n in (1, 5):
            told = groups_of(rules_of("points"), [], n)
            told[0].append(99)
            self.assertEqual(groups_of(rules_of("points"), [], n), [list(range(n))])

    def test_places_and_partings_are_new_each_time(self):
        rules, games = rules_of("points", "among"), list(ANEW)
        places_of(rules, games, 4).append(99)
        parted_by(rules, games, 4, 0, 3)[0].append(99)
        parted_by(rules, games, 4, 1, 2)[0].append(99)
        self.assertEqual(places_of(rules, games, 4), [1, 2, 3, 4])
        self.assertEqual(parted_by(rules, games, 4, 0, 3)[0], [0, 1, 2, 3])
        self.assertEqual(parted_by(rules, games, 4, 1, 2)[0], [1, 2])

    def test_games_stay_as_they_were_and_may_be_changed_afterwards(self):
        rules, games = rules_of("points", "among"), list(ANEW)
        told = (groups_of(rules, games, 4), places_of(rules, games, 4), parted_by(rules, games, 4, 1, 2))
        self.assertEqual(games, list(ANEW))
        games.clear()
        self.assertEqual(told, ([[0], [1], [2], [3]], [1, 2, 3, 4], ([1, 2], "among", 3, 0)))
        self.assertEqual(groups_of(rules, games, 4), [[0, 1, 2, 3]])
        self.assertEqual((rules.rule_of(), rules.words_of()), (RULE, ["points", "among"]))


if __name__ == "__main__":
    unittest.main()

"""Promise 16: trees."""

import itertools
import random
import unittest
import unittest.mock

from cupdraw.errors import CupError, NoSize, NotDue
from cupdraw.trees import Tree

SIZES = range(1, 17)

SIXTEEN = [0, 15, 7, 8, 3, 12, 4, 11, 1, 14, 6, 9, 2, 13, 5, 10]
EIGHT = [0, 7, 3, 4, 1, 6, 2, 5]
FOUR = [0, 3, 1, 2]

FIRST_DUE = {
    1: [],
    2: [(0, 1)],
    3: [(1, 2)],
    4: [(0, 3), (1, 2)],
    5: [(3, 4), (1, 2)],
    6: [(3, 4), (2, 5)],
    7: [(3, 4), (1, 6), (2, 5)],
    8: [(0, 7), (3, 4), (1, 6), (2, 5)],
    9: [(7, 8), (3, 4), (1, 6), (2, 5)],
    16: [(0, 15), (7, 8), (3, 12), (4, 11), (1, 14), (6, 9), (2, 13), (5, 10)],
}

NO_PLAYERS = (
    None, True, False, "", "0", "1", 0.0, 1.0, 0.5, b"0", [], [0], [1], [0, 1], (), (0,), (1,), (0, 1), {}, {0: 1},
    {0}, object(), int, range(2), len, unittest.mock.ANY,
)
NO_SIZES = (
    None, True, False, "", "1", "4", 1.0, 4.0, b"4", [], [4], [[4]], (), (4,), {}, {4: 4}, {4}, object(), int,
    range(4), unittest.mock.ANY,
)


def slots_for(n):
    row = next(row for row in ([0], [0, 1], FOUR, EIGHT, SIXTEEN) if len(row) >= n)
    return [player if player < n else None for player in row]


def branch(row):
    """The slots as a tree of tuples: neighbours first, then these."""
    while len(row) > 1:
        row = [(row[place], row[place + 1]) for place in range(0, len(row), 2)]
    return row[0]


def walked(node, winners, due):
    """Who comes out of a branch: a player, None for nobody, "open" where it isn't known; due takes up what is due."""
    if not isinstance(node, tuple):
        return node
    one, other = walked(node[0], winners, due), walked(node[1], winners, due)
    if one is None or other is None:
        return other if one is None else one
    if "open" in (one, other):
        return "open"
    if frozenset((one, other)) not in winners:
        due.append((one, other))
        return "open"
    return winners[frozenset((one, other))]


def plain_state(n, contests):
    """All that a tree tells, by the contests told: pairs (winner, loser)."""
    winners = {frozenset(contest): contest[0] for contest in contests}
    due = []
    champion = walked(branch(slots_for(n)), winners, due)
    beaten = {loser: winner for winner, loser in contests}
    return (
        sorted(due, key=lambda pair: slots_for(n).index(pair[0])),
        [player for player in range(n) if player not in beaten],
        [beaten.get(player) for player in range(n)],
        None if champion == "open" else champion,
    )


def state_of(tree, n):
    return tree.due(), tree.left(), [tree.beaten_by(player) for player in range(n)], tree.champion()


def tree_told(n, contests):
    tree = Tree(n)
    for winner, loser in contests:
        tree.told(winner, loser)
    return tree


def all_ways(n, contests=()):
    """All lists of contests, whole or not, in whatever order, with whoever as the winners."""
    yield list(contests)
    for one, other in plain_state(n, contests)[0]:
        yield from all_ways(n, contests + ((one, other),))
        yield from all_ways(n, contests + ((other, one),))


def some_way(chance, n, lacking=0):
    """A list of contests in some order; so many are lacking at the end."""
    contests = []
    while len(contests) < n - 1 - lacking:
        pair = chance.choice(plain_state(n, contests)[0])
        contests.append(tuple(chance.sample(pair, 2)))
    return contests


class ToldByHand(unittest.TestCase):

    def test_first_due(self):
        for n, pairs in FIRST_DUE.items():
            with self.subTest(n=n):
                self.assertEqual(Tree(n).due(), pairs)

    def test_one_player_is_champion_at_once(self):
        self.assertEqual(state_of(Tree(1), 1), ([], [0], [None], 0))

    def test_two_players(self):
        for winner, loser in ((0, 1), (1, 0)):
            tree = Tree(2)
            self.assertEqual(state_of(tree, 2), ([(0, 1)], [0, 1], [None, None], None))
            tree.told(winner, loser)
            self.assertEqual((tree.due(), tree.left(), tree.champion()), ([], [winner], winner))
            self.assertEqual((tree.beaten_by(winner), tree.beaten_by(loser)), (None, winner))

    def test_three_players_the_first_goes_on_without_a_contest(self):
        tree = Tree(3)
        tree.told(2, 1)
        self.assertEqual(state_of(tree, 3), ([(0, 2)], [0, 2], [None, 2, None], None))
        tree.told(2, 0)
        self.assertEqual(state_of(tree, 3), ([], [2], [2, 2, None], 2))

    def test_five_players_the_rounds_run_into_one_another(self):
        tree = Tree(5)
        self.assertEqual(tree.due(), [(3, 4), (1, 2)])
        tree.told(2, 1)
        self.assertEqual(tree.due(), [(3, 4)])
        tree.told(4, 3)
        self.assertEqual(tree.due(), [(0, 4)])
        tree.told(4, 0)
        self.assertEqual(tree.due(), [(4, 2)])
        tree.told(2, 4)
        self.assertEqual(state_of(tree, 5), ([], [2], [4, 2, None, 4, 2], 2))

    def test_due_in_the_order_of_the_slots_whatever_the_round(self):
        tree = Tree(16)
        tree.told(8, 7)
        tree.told(15, 0)
        self.assertEqual(tree.due(), [(15, 8), (3, 12), (4, 11), (1, 14), (6, 9), (2, 13), (5, 10)])
        tree.told(10, 5)
        tree.told(2, 13)
        self.assertEqual(tree.due(), [(15, 8), (3, 12), (4, 11), (1, 14), (6, 9), (2, 10)])
        tree.told(10, 2)
        tree.told(15, 8)
        tree.told(9, 6)
        tree.told(1, 14)
        self.assertEqual(tree.due(), [(3, 12), (4, 11), (1, 9)])
        tree.told(9, 1)
        self.assertEqual(tree.due(), [(3, 12), (4, 11), (9, 10)])
        tree.told(10, 9)
        self.assertEqual(tree.due(), [(3, 12), (4, 11)])
        tree.told(11, 4)
        tree.told(12, 3)
        self.assertEqual(tree.due(), [(12, 11)])
        tree.told(11, 12)
        self.assertEqual(tree.due(), [(15, 11)])
        tree.told(11, 15)
        self.assertEqual(tree.due(), [(11, 10)])
        tree.told(10, 11)
        self.assertEqual((tree.due(), tree.left(), tree.champion()), ([], [10], 10))


class ToldAnyWay(unittest.TestCase):

    def test_all_ways_of_few_players(self):
        for n in range(1, 7):
            for contests in all_ways(n):
                self.check(n, contests)

    def test_some_ways_of_more_players(self):
        chance = random.Random(19)
        for n in SIZES:
            for _ in range(30):
                contests = some_way(chance, n)
                for told in range(n):
                    self.check(n, contests[:told])

    def test_there_is_one_contest_fewer_than_players(self):
        for n in SIZES:
            tree = Tree(n)
            for told in range(n - 1):
                self.assertIsNone(tree.champion())
                self.assertEqual(len(tree.left()), n - told)
                one, other = tree.due()[-1]
                tree.told(other, one)
            self.assertEqual((tree.due(), tree.left()), ([], [tree.champion()]))

    def test_the_same_in_whatever_order(self):
        chance = random.Random(20)
        for n in SIZES:
            strength = chance.sample(range(n), n)
            ends = []
            for _ in range(20):
                tree = Tree(n)
                while tree.due():
                    pair = sorted(chance.choice(tree.due()), key=lambda player: strength[player])
                    tree.told(pair[1], pair[0])
                ends.append(state_of(tree, n))
            self.assertEqual(ends, ends[:1] * 20)
            self.assertEqual(ends[0][3], strength.index(n - 1))

    def test_the_same_contests_in_whatever_order(self):
        chance = random.Random(21)
        for n in SIZES:
            results = some_way(chance, n)
            for _ in range(10):
                tree, waiting = Tree(n), list(results)
                while waiting:
                    ready = [contest for contest in waiting if tuple(contest) in tree.due()
                             or tuple(contest[::-1]) in tree.due()]
                    contest = chance.choice(ready)
                    tree.told(*contest)
                    waiting.remove(contest)
                self.assertEqual(state_of(tree, n), plain_state(n, results))

    def test_the_kinds(self):
        tree = tree_told(6, [(4, 3), (4, 0)])
        self.assertEqual({type(tree.due()), type(tree.left())}, {list})
        self.assertEqual({type(pair) for pair in tree.due()}, {tuple})
        self.assertEqual({type(player) for player in tree.left() + list(tree.due()[0])}, {int})

    def check(self, n, contests):
        with self.subTest(n=n, contests=contests):
            self.assertEqual(state_of(tree_told(n, contests), n), plain_state(n, contests))


class NotDueYet(unittest.TestCase):

    def test_every_two_that_are_not_due(self):
        chance = random.Random(22)
        for n in SIZES:
            for lacking in range(n):
                self.check_all_refused(n, some_way(chance, n, lacking))

    def test_all_ways_of_few_players(self):
        for n in range(1, 6):
            for contests in all_ways(n):
                self.check_all_refused(n, contests)

    def test_by_hand(self):
        tree = tree_told(5, [(4, 3)])
        for winner, loser in (
            (0, 1), (1, 0), (2, 0), (4, 1), (2, 4), (4, 3), (3, 4), (3, 0), (0, 3), (0, 0), (1, 1), (3, 3), (0, 5),
            (5, 0), (-1, 0), (0, -1), (-4, -5), (1, -3), (7, 8), (10 ** 30, 0),
        ):
            self.check_refused(tree, 5, winner, loser)
        tree.told(0, 4)
        tree.told(1, 2)
        self.check_refused(tree, 5, 2, 0)
        tree.told(0, 1)
        for winner, loser in itertools.product(range(5), repeat=2):
            self.check_refused(tree, 5, winner, loser)
        self.assertEqual(tree.champion(), 0)

    def test_things_of_any_kind(self):
        for n in (1, 2, 3, 16):
            tree = Tree(n)
            for thing in NO_PLAYERS:
                for player in (0, 1, 2, 15):
                    self.check_refused(tree, n, thing, player)
                    self.check_refused(tree, n, player, thing)
                self.check_refused(tree, n, thing, thing)
            for one, other in ((True, False), (False, True), (1.0, 0.0), ((0, 1), None), (None, None)):
                self.check_refused(tree, n, one, other)

    def test_nothing_has_changed_and_it_goes_on(self):
        tree = Tree(4)
        self.check_refused(tree, 4, 0, 1)
        tree.told(0, 3)
        self.check_refused(tree, 4, 0, 3)
        self.check_refused(tree, 4, 3, 0)
        tree.told(2, 1)
        self.check_refused(tree, 4, 1, 0)
        tree.told(0, 2)
        self.check_refused(tree, 4, 2, 0)
        self.assertEqual(state_of(tree, 4), ([], [0], [None, 2, 0, 0], 0))

    def check_all_refused(self, n, contests):
        tree = tree_told(n, contests)
        due = plain_state(n, contests)[0]
        for winner, loser in itertools.product(range(-1, n + 2), repeat=2):
            if (winner, loser) not in due and (loser, winner) not in due:
                self.check_refused(tree, n, winner, loser)

    def check_refused(self, tree, n, winner, loser):
        before = state_of(tree, n)
        with self.assertRaises(CupError) as taken:
            tree.told(winner, loser)
        self.assertIs(type(taken.exception), NotDue)
        self.assertEqual(state_of(tree, n), before)


class NoSuchSize(unittest.TestCase):

    def test_too_few_or_too_many(self):
        for n in (0, -1, -2, -16, 17, 18, 32, 100, 10 ** 30, -10 ** 30, 10 ** 5000):
            self.check_refused(n)

    def test_things_of_any_kind(self):
        for thing in NO_SIZES:
            self.check_refused(thing)

    def check_refused(self, thing):
        with self.assertRaises(CupError) as taken:
            Tree(thing)
        self.assertIs(type(taken.exception), NoSize)


class HandedInAndTold(unittest.TestCase):

    def test_told_lists_are_the_askers_own(self):
        chance = random.Random(23)
        for n in SIZES:
            contests = some_way(chance, n)
            tree = Tree(n)
            for told, (winner, loser) in enumerate(contests):
                due, left = tree.due(), tree.left()
                self.assertIsNot(due, tree.due())
                self.assertIsNot(left, tree.left())
                due.clear()
                left[:] = [99]
                self.assertEqual(state_of(tree, n), plain_state(n, contests[:told]))
                tree.told(winner, loser)
                self.assertEqual((due, left), ([], [99]))
            self.assertEqual(state_of(tree, n), plain_state(n, contests))

    def test_what_was_told_stays_when_the_tree_goes_on(self):
        tree = Tree(3)
        due, left = tree.due(), tree.left()
        tree.told(1, 2)
        tree.told(1, 0)
        self.assertEqual((due, left), ([(1, 2)], [0, 1, 2]))

    def test_asking_changes_nothing(self):
        tree = tree_told(8, [(7, 0), (3, 4)])
        before = state_of(tree, 8)
        for _ in range(3):
            self.assertEqual(state_of(tree, 8), before)

    def test_two_trees_do_not_touch_one_another(self):
        one, other, third = Tree(8), Tree(8), Tree(4)
        one.told(7, 0)
        other.told(3, 4)
        self.assertEqual(state_of(one, 8), plain_state(8, [(7, 0)]))
        self.assertEqual(state_of(other, 8), plain_state(8, [(3, 4)]))
        self.assertEqual(state_of(third, 4), plain_state(4, []))
        other.told(0, 7)
        self.assertEqual((one.beaten_by(7), other.beaten_by(7)), (None, 0))
        self.assertEqual(state_of(Tree(8), 8), plain_state(8, []))


if __name__ == "__main__":
    unittest.main()

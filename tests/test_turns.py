"""Promise 14: sides and turns; and what 4, 11, 12 and 13 promise of the told plans and legs with them."""

import itertools
import random
import unittest

from cupdraw.plans import is_plan, legs_of, plan_of
from cupdraw.turns import all_turns, sides_of, turns_of

SIZES = range(2, 17)
OTHER_SIDE = {"home": "away", "away": "home", "free": "free"}

# Rounds, a player, its sides, its turns.
BY_HAND = (
    ([], 0, [], 0),
    ([[]], 0, ["free"], 0),
    ([[], [], []], 3, ["free", "free", "free"], 0),
    ([[(0, 1)]], 0, ["home"], 0),
    ([[(0, 1)]], 1, ["away"], 0),
    ([[(0, 1)]], 2, ["free"], 0),
    ([[(0, 1)], [(0, 2)]], 0, ["home", "home"], 1),
    ([[(1, 0)], [(2, 0)]], 0, ["away", "away"], 1),
    ([[(0, 1)], [(1, 0)]], 0, ["home", "away"], 0),
    ([[(1, 0)], [(0, 1)]], 0, ["away", "home"], 0),
    ([[(0, 1)], [(0, 1)], [(0, 1)]], 0, ["home", "home", "home"], 2),
    ([[(0, 1)], [], [(0, 1)]], 0, ["home", "free", "home"], 1),
    ([[(0, 1)], [(2, 3)], [], [(4, 0)], [], [(5, 0)]], 0, ["home", "free", "free", "away", "free", "away"], 1),
    ([[(0, 1)], [], [(1, 0)]], 0, ["home", "free", "away"], 0),
    ([[], [(0, 1)], [(0, 1)], []], 1, ["free", "away", "away", "free"], 1),
    ([[(0, 1), (2, 3)], [(3, 0), (1, 2)], [(2, 0), (3, 1)]], 0, ["home", "away", "away"], 1),
    ([[(0, 1), (2, 3)], [(3, 0), (1, 2)], [(2, 0), (3, 1)]], 3, ["away", "home", "home"], 1),
    ([[(14, 15)], [(15, 13)], [(15, 12)], [(15, 14)]], 15, ["away", "home", "home", "home"], 2),
    ([[(14, 15)], [(15, 13)], [(15, 12)], [(15, 14)]], 14, ["home", "free", "free", "away"], 0),
    ([[(14, 15)], [(15, 13)], [(15, 12)], [(15, 14)]], 0, ["free"] * 4, 0),
    ([[(5, 6)], [(6, 5)], [(5, 6)], [(5, 6)], [(6, 5)], [(6, 5)]], 5,
     ["home", "away", "home", "home", "away", "away"], 2),
)

# The turns of each player in the told plan.
TURNS_IN_PLANS = {
    2: [0, 0],
    3: [0, 0, 0],
    4: [0, 1, 1, 0],
    5: [0, 0, 0, 0, 0],
    6: [0, 1, 1, 1, 1, 0],
}


def plain_sides(rounds, player):
    homes = [{home for home, away in pairs} for pairs in rounds]
    aways = [{away for home, away in pairs} for pairs in rounds]
    return [
        {(True, False): "home", (False, True): "away", (False, False): "free"}[player in home, player in away]
        for home, away in zip(homes, aways)
    ]


def plain_turns(rounds, player):
    """Each turn joins a side to the run of like ones ahead of it."""
    sides = [side for side in plain_sides(rounds, player) if side != "free"]
    return len(sides) - len(list(itertools.groupby(sides)))


def some_round(chance, players):
    order = chance.sample(players, len(players))
    pairs = list(zip(order[::2], order[1::2]))
    return pairs[:chance.randrange(len(pairs) + 1)]


def some_rounds(chance, n):
    return [some_round(chance, range(n)) for _ in range(chance.randrange(12))]


def sided(rounds, sides):
    """The rounds with each pair the one way round or the other."""
    sides = iter(sides)
    return [[pair[::next(sides)] for pair in pairs] for pairs in rounds]


def shaken(chance, n):
    """A plan with rounds, pairs and sides in another order."""
    plan = sided(plan_of(n), iter(lambda: chance.choice((1, -1)), 0))
    for pairs in plan:
        chance.shuffle(pairs)
    chance.shuffle(plan)
    return plan


def copied(rounds):
    return [list(pairs) for pairs in rounds]


class SidesAndTurns(unittest.TestCase):

    def test_by_hand(self):
        for rounds, player, sides, turns in BY_HAND:
            with self.subTest(rounds=rounds, player=player):
                self.assertEqual(sides_of(rounds, player), sides)
                self.assertEqual(turns_of(rounds, player), turns)

    def test_any_rounds(self):
        chance = random.Random(14)
        for n in range(1, 17):
            for _ in range(40):
                rounds = some_rounds(chance, n)
                for player in range(16):
                    with self.subTest(rounds=rounds, player=player):
                        self.assertEqual(sides_of(rounds, player), plain_sides(rounds, player))
                        self.assertEqual(turns_of(rounds, player), plain_turns(rounds, player))

    def test_all_rows_of_sides(self):
        ways = {"home": [(0, 1)], "away": [(1, 0)], "free": [(1, 2)]}
        for length in range(6):
            for sides in itertools.product(ways, repeat=length):
                rounds = [list(ways[side]) for side in sides]
                self.assertEqual(sides_of(rounds, 0), list(sides))
                self.assertEqual(turns_of(rounds, 0), plain_turns(rounds, 0))

    def test_who_never_comes_is_free_and_has_no_turns(self):
        for n in SIZES:
            for player in (n, n + 1, 15 + n):
                self.assertEqual(sides_of(plan_of(n), player), ["free"] * len(plan_of(n)))
                self.assertEqual(turns_of(plan_of(n), player), 0)

    def test_many_rounds(self):
        rounds = [[(0, 1)] for _ in range(300)]
        self.assertEqual(sides_of(rounds, 0), ["home"] * 300)
        self.assertEqual([turns_of(rounds, player) for player in (0, 1, 2)], [299, 299, 0])
        self.assertEqual(all_turns(rounds, 16), 598)

    def test_a_place_in_the_round_tells_nothing(self):
        pairs = [(0, 1), (2, 3), (4, 5)]
        for order in itertools.permutations(pairs):
            for home, away in pairs:
                self.assertEqual(sides_of([list(order)], home), ["home"])
                self.assertEqual(sides_of([list(order)], away), ["away"])

    def test_the_kinds(self):
        sides = sides_of(plan_of(5), 0)
        self.assertIs(type(sides), list)
        self.assertEqual({type(side) for side in sides}, {str})
        for rounds in ([], plan_of(6)):
            self.assertIs(type(turns_of(rounds, 1)), int)
            self.assertIs(type(all_turns(rounds, 3)), int)


class AllTurns(unittest.TestCase):

    def test_by_hand(self):
        rounds = [[(0, 1), (2, 3)], [(0, 2), (1, 3)], [(0, 3), (2, 1)]]
        self.assertEqual([turns_of(rounds, player) for player in range(4)], [2, 0, 0, 2])
        self.assertEqual([all_turns(rounds, n) for n in range(1, 7)], [2, 2, 2, 4, 4, 4])

    def test_nothing_at_all(self):
        for rounds in ([], [[]], [[], [], []]):
            for n in range(1, 17):
                self.assertEqual(all_turns(rounds, n), 0)

    def test_one_player_alone(self):
        self.assertEqual(all_turns([[(0, 1)], [(0, 1)], [(1, 0)]], 1), 1)
        self.assertEqual(all_turns([[(2, 1)], [(2, 1)]], 1), 0)

    def test_any_rounds(self):
        chance = random.Random(15)
        for _ in range(300):
            rounds = some_rounds(chance, 16)
            for n in range(1, 17):
                self.assertEqual(all_turns(rounds, n), sum(plain_turns(rounds, player) for player in range(n)))


class WholePlans(unittest.TestCase):

    def test_turns_of_each_player_by_hand(self):
        for n, turns in TURNS_IN_PLANS.items():
            self.assertEqual([turns_of(plan_of(n), player) for player in range(n)], turns)

    def test_turns_of_the_told_plans(self):
        for n in SIZES:
            with self.subTest(n=n):
                self.assertEqual(all_turns(plan_of(n), n), 0 if n % 2 else n - 2)

    def test_as_few_rounds_as_can_be(self):
        for n in SIZES:
            plan = plan_of(n)
            meetings = n * (n - 1) // 2
            self.assertTrue(is_plan(plan, n))
            self.assertEqual(len(plan), -(-meetings // (n // 2)))
            self.assertEqual(sum(len(pairs) for pairs in plan), meetings)

    def test_free_rounds(self):
        for n in SIZES:
            for player in range(n):
                self.assertEqual(sides_of(plan_of(n), player).count("free"), n % 2)

    def test_for_odd_n_as_often_at_home_as_away(self):
        for n in range(3, 17, 2):
            for player in range(n):
                sides = sides_of(plan_of(n), player)
                self.assertEqual(sides.count("home"), sides.count("away"))

    def test_no_plan_of_four_has_fewer_turns(self):
        for rounds in itertools.permutations([[(0, 1), (2, 3)], [(0, 2), (1, 3)], [(0, 3), (1, 2)]]):
            found = [all_turns(sided(rounds, sides), 4) for sides in itertools.product((1, -1), repeat=6)]
            self.assertEqual(min(found), 2)
        self.assertEqual(all_turns(plan_of(4), 4), 2)

    def test_no_plan_of_even_n_has_fewer_turns(self):
        chance = random.Random(16)
        for n in range(2, 17, 2):
            for _ in range(50):
                plan = shaken(chance, n)
                self.assertTrue(is_plan(plan, n))
                self.assertGreaterEqual(all_turns(plan, n), all_turns(plan_of(n), n))


class WholeLegs(unittest.TestCase):

    def test_sides_in_legs(self):
        for n, times in itertools.product(SIZES, range(1, 5)):
            rounds = legs_of(n, times)
            for player in range(n):
                sides = plain_sides(plan_of(n), player)
                turned = [OTHER_SIDE[side] for side in sides]
                self.assertEqual(sides_of(rounds, player), (sides + turned + sides + turned)[:len(sides) * times])
                self.assertEqual(turns_of(rounds, player), plain_turns(rounds, player))

    def test_turns_within_each_leg(self):
        for n in SIZES:
            rounds = legs_of(n, 4)
            size = len(rounds) // 4
            for leg in range(4):
                self.assertEqual(all_turns(rounds[leg * size:leg * size + size], n), 0 if n % 2 else n - 2)

    def test_sides_in_two_legs_by_hand(self):
        self.assertEqual(sides_of(legs_of(3, 2), 0), ["free", "away", "home", "free", "home", "away"])
        self.assertEqual([turns_of(legs_of(3, 2), player) for player in range(3)], [1, 1, 1])
        self.assertEqual(sides_of(legs_of(4, 2), 3), ["away", "home", "away", "home", "away", "home"])
        self.assertEqual([turns_of(legs_of(4, 2), player) for player in range(4)], [0, 3, 3, 0])
        self.assertEqual(all_turns(legs_of(2, 4), 2), 0)

    def test_as_often_at_home_as_away_in_even_legs(self):
        for n, times in itertools.product(SIZES, (2, 4)):
            for player in range(n):
                sides = sides_of(legs_of(n, times), player)
                self.assertEqual(sides.count("home"), (n - 1) * times // 2)
                self.assertEqual(sides.count("away"), (n - 1) * times // 2)


class HandedInAndTold(unittest.TestCase):

    def test_the_rounds_handed_in_stay_as_they_were(self):
        chance = random.Random(17)
        for _ in range(50):
            rounds = some_rounds(chance, 16)
            before = copied(rounds)
            sides_of(rounds, 3)
            turns_of(rounds, 3)
            all_turns(rounds, 16)
            self.assertEqual(rounds, before)

    def test_told_lists_are_the_askers_own(self):
        rounds = copied(plan_of(4))
        first, second = sides_of(rounds, 1), sides_of(rounds, 1)
        self.assertIsNot(first, second)
        first.clear()
        self.assertEqual(second, ["home", "away", "away"])
        self.assertEqual(sides_of(rounds, 1), ["home", "away", "away"])
        rounds[0].clear()
        rounds.pop()
        self.assertEqual(second, ["home", "away", "away"])
        self.assertEqual(sides_of(rounds, 1), ["free", "away"])


if __name__ == "__main__":
    unittest.main()

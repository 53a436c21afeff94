"""Promise 21: leans, last sides, wanted sides, who has met whom and who had a bye; and what 2 promises of them."""

import itertools
import random
import unittest

from cupdraw.sides import had_bye, have_met, last_side, lean_of, wanted_side

# What player 0 does in a game, as the game.
WAYS = {"home": (0, 1, 2, 1), "away": (2, 0, 0, 0), "bye": (0,), "others": (1, 2, 0, 3), "another's bye": (3,)}

# Games, a player, its lean, its last side, the side that it wants.
BY_HAND = (
    ([], 0, 0, None, None),
    ([(0,)], 0, 0, None, None),
    ([(0,), (0,)], 0, 0, None, None),
    ([(1, 2, 3, 4)], 0, 0, None, None),
    ([(0, 1, 3, 4)], 0, 1, "home", "away"),
    ([(0, 1, 3, 4)], 1, -1, "away", "home"),
    ([(0, 1, 3, 4)], 2, 0, None, None),
    ([(0, 1, 3, 4), (1, 0, 0, 0)], 0, 0, "away", "home"),
    ([(0, 1, 3, 4), (1, 0, 0, 0)], 1, 0, "home", "away"),
    # The lean goes ahead of the last side.
    ([(0, 1, 0, 0), (0, 2, 0, 0), (3, 0, 0, 0)], 0, 1, "away", "away"),
    ([(1, 0, 0, 0), (2, 0, 0, 0), (0, 3, 0, 0)], 0, -1, "home", "home"),
    ([(0, 1, 0, 0), (0, 2, 0, 0)], 0, 2, "home", "away"),
    ([(1, 0, 0, 0), (2, 0, 0, 0)], 0, -2, "away", "home"),
    # A bye is no contest: it changes neither lean nor last side.
    ([(0, 1, 0, 0), (0,)], 0, 1, "home", "away"),
    ([(1, 0, 0, 0), (0,), (0,)], 0, -1, "away", "home"),
    ([(0,), (0, 1, 0, 0), (0,), (2, 0, 0, 0), (0,)], 0, 0, "away", "home"),
    # Who won tells nothing.
    ([(4, 5, 0, 9), (5, 4, 9, 0)], 4, 0, "away", "home"),
    ([(4, 5, 9, 0), (5, 4, 0, 9)], 4, 0, "away", "home"),
    ([(14, 15, 999, 0), (15, 13, 1, 1), (12, 15, 0, 0)], 15, -1, "away", "home"),
)


def plain_lean(games, player):
    return sum(1 for game in games if len(game) == 4 and game[0] == player) \
        - sum(1 for game in games if len(game) == 4 and game[1] == player)


def plain_last(games, player):
    last = None
    for game in games:
        if len(game) == 4 and player in game[:2]:
            last = ("home", "away")[game[:2].index(player)]
    return last


def plain_wanted(games, player):
    lean, last = plain_lean(games, player), plain_last(games, player)
    if lean != 0:
        return "away" if lean > 0 else "home"
    return {None: None, "home": "away", "away": "home"}[last]


def some_game(chance, n):
    one, other = chance.sample(range(n), 2)
    if chance.random() < 0.2:
        return (one,)
    # Marks as great as the numbers of players, so that the two can be mistaken for one another.
    return (one, other, chance.randrange(n), chance.randrange(n))


def some_games(chance, n):
    return [some_game(chance, n) for _ in range(chance.randrange(12))]


class Sides(unittest.TestCase):

    def check(self, games, player):
        with self.subTest(games=games, player=player):
            self.assertEqual(lean_of(games, player), plain_lean(games, player))
            self.assertEqual(last_side(games, player), plain_last(games, player))
            self.assertEqual(wanted_side(games, player), plain_wanted(games, player))

    def test_by_hand(self):
        for games, player, lean, last, wanted in BY_HAND:
            with self.subTest(games=games, player=player):
                self.assertEqual(lean_of(games, player), lean)
                self.assertEqual(last_side(games, player), last)
                self.assertEqual(wanted_side(games, player), wanted)

    def test_all_orders_of_contests_and_byes(self):
        for length in range(5):
            for ways in itertools.product(WAYS, repeat=length):
                self.check([WAYS[way] for way in ways], 0)

    def test_all_orders_of_sides(self):
        for length in range(9):
            for sides in itertools.product(("home", "away"), repeat=length):
                games = [WAYS[side] for side in sides]
                lean = sides.count("home") - sides.count("away")
                self.assertEqual(lean_of(games, 0), lean)
                self.assertEqual(last_side(games, 0), sides[-1] if sides else None)
                self.assertIn(wanted_side(games, 0), ("home", "away") if sides else (None,))
                if sides and lean == 0:
                    self.assertNotEqual(wanted_side(games, 0), sides[-1])
                if lean > 0:
                    self.assertEqual(wanted_side(games, 0), "away")
                if lean < 0:
                    self.assertEqual(wanted_side(games, 0), "home")

    def test_any_games(self):
        chance = random.Random(21)
        for n in (2, 3, 5, 10, 16):
            for _ in range(60):
                games = some_games(chance, n)
                for player in range(n):
                    self.check(games, player)

    def test_all_leans_together_are_nothing(self):
        chance = random.Random(22)
        for _ in range(100):
            games = some_games(chance, 10)
            self.assertEqual(sum(lean_of(games, player) for player in range(10)), 0)

    def test_many_games(self):
        games = [(0, 1, 0, 0)] * 300
        self.assertEqual([lean_of(games, player) for player in range(3)], [300, -300, 0])
        self.assertEqual([wanted_side(games, player) for player in range(3)], ["away", "home", None])
        self.assertEqual([last_side(games, player) for player in range(3)], ["home", "away", None])

    def test_who_is_in_no_game(self):
        for games in ([], [(1,)], [(1, 2, 5, 5)], [(1, 2, 0, 0), (2,), (2, 1, 0, 0)]):
            for player in (0, 5, 15, 16):
                self.assertEqual(lean_of(games, player), 0)
                self.assertIsNone(last_side(games, player))
                self.assertIsNone(wanted_side(games, player))
                self.assertIs(had_bye(games, player), False)
                self.assertIs(have_met(games, player, 1), False)
                self.assertIs(have_met(games, 1, player), False)

    def test_the_kinds(self):
        games = [(0, 1, 0, 0)]
        for player in range(3):
            self.assertIs(type(lean_of(games, player)), int)
        self.assertIs(type(last_side(games, 0)), str)
        self.assertIs(type(wanted_side(games, 0)), str)


class Met(unittest.TestCase):

    def test_either_way_round(self):
        for games in ([(3, 4, 2, 1)], [(4, 3, 2, 1)], [(1, 2, 0, 0), (3,), (4, 3, 0, 9)]):
            self.assertIs(have_met(games, 3, 4), True)
            self.assertIs(have_met(games, 4, 3), True)

    def test_not_met(self):
        games = [(0, 1, 2, 3), (2, 3, 0, 1)]
        for one, other in ((0, 2), (0, 3), (1, 2), (1, 3), (0, 4), (4, 5)):
            self.assertIs(have_met(games, one, other), False)
            self.assertIs(have_met(games, other, one), False)
        self.assertIs(have_met([], 0, 1), False)

    def test_marks_are_no_players(self):
        self.assertIs(have_met([(0, 1, 2, 3)], 0, 2), False)
        self.assertIs(have_met([(0, 1, 2, 3)], 2, 3), False)
        self.assertIs(had_bye([(0, 1, 2, 2)], 2), False)

    def test_nobody_has_met_itself(self):
        for games in ([], [(0,)], [(0,), (0,)], [(0, 1, 0, 0)], [(1, 0, 1, 1), (0, 1, 0, 0)]):
            for player in (0, 1, 2):
                self.assertIs(have_met(games, player, player), False)

    def test_two_that_had_byes(self):
        self.assertIs(have_met([(0,), (1,)], 0, 1), False)
        self.assertIs(have_met([(1,), (0,), (0,)], 1, 0), False)

    def test_any_games(self):
        chance = random.Random(23)
        for _ in range(150):
            games = some_games(chance, 6)
            met = {frozenset(game[:2]) for game in games if len(game) == 4}
            for one, other in itertools.product(range(6), repeat=2):
                self.assertIs(have_met(games, one, other), frozenset((one, other)) in met)


class Byes(unittest.TestCase):

    def test_by_hand(self):
        games = [(0, 1, 2, 2), (2,), (1, 2, 0, 0), (0,), (2,)]
        self.assertEqual([had_bye(games, player) for player in range(4)], [True, False, True, False])

    def test_contests_are_no_byes(self):
        for player in range(3):
            self.assertIs(had_bye([], player), False)
            self.assertIs(had_bye([(0, 1, 0, 0), (1, 0, 0, 0)], player), False)

    def test_any_games(self):
        chance = random.Random(24)
        for _ in range(150):
            games = some_games(chance, 6)
            for player in range(6):
                self.assertIs(had_bye(games, player), player in [game[0] for game in games if len(game) == 1])


class HandedInAndTold(unittest.TestCase):

    def test_the_games_handed_in_stay_and_the_same_is_told_again(self):
        chance = random.Random(25)
        for _ in range(60):
            games = some_games(chance, 5)
            before = list(games)
            told = []
            for _ in range(2):
                for player in range(5):
                    told.append((
                        lean_of(games, player), last_side(games, player), wanted_side(games, player),
                        have_met(games, player, 0), had_bye(games, player),
                    ))
            self.assertEqual(games, before)
            self.assertEqual(told[:5], told[5:])


if __name__ == "__main__":
    unittest.main()

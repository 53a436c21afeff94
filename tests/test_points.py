"""Promises 2 and 6: rules of points, and what games give by them."""

import unittest

from cupdraw.errors import CupError, NoRule
from cupdraw.points import gives, made_rule, points_of

MOST = 1000000
RULE = (3, 1, 0)
NO_NUMBERS = (True, False, "1", "", None, [1], [], (1,), (), {}, 1.0, 0.0, b"1", object(), int)


def swapped(values, place, thing):
    return values[:place] + (thing,) + values[place + 1:]


class MadeRule(unittest.TestCase):

    def test_a_rule_is_told_as_a_tuple(self):
        for rule in (
            (3, 1, 0), (2, 1, 0), (1, 0, -1), (0, -1, -2), (-1, -2, -3), (5, 4, -9),
            (MOST, 0, -MOST), (MOST, MOST - 1, MOST - 2), (2 - MOST, 1 - MOST, -MOST),
        ):
            with self.subTest(rule=rule):
                self.assertEqual(made_rule(*rule), rule)
                self.assertIs(type(made_rule(*rule)), tuple)

    def test_two_alike_make_a_rule(self):
        for rule in (
            (3, 3, 0), (3, 0, 0), (1, 0, 0), (1, 1, 0), (0, 0, -1), (0, -1, -1),
            (MOST, MOST, -MOST), (MOST, -MOST, -MOST), (MOST, MOST, MOST - 1), (1 - MOST, -MOST, -MOST),
        ):
            with self.subTest(rule=rule):
                self.assertEqual(made_rule(*rule), rule)

    def test_three_alike_make_none(self):
        for number in (0, 1, -1, 3, MOST, -MOST):
            self.check_refused((number, number, number))

    def test_out_of_order_makes_none(self):
        for rule in (
            (1, 3, 0), (3, 0, 1), (0, 1, 3), (0, 3, 1), (1, 0, 3), (2, 3, 0), (3, 0, 2),
            (0, 1, 0), (1, 0, 1), (0, 0, 1), (0, 1, 1), (-1, 0, -2), (1, -1, 0), (0, MOST, -MOST), (-MOST, 0, MOST),
        ):
            self.check_refused(rule)

    def test_beyond_an_end_makes_none(self):
        for rule in (
            (MOST + 1, 1, 0), (MOST + 1, MOST + 1, 0), (MOST + 1, MOST, MOST),
            (3, 1, -MOST - 1), (3, -MOST - 1, -MOST - 1), (-MOST, -MOST, -MOST - 1),
            (MOST + 3, MOST + 2, MOST + 1), (-MOST - 1, -MOST - 2, -MOST - 3),
            (10 ** 30, 1, 0), (3, 1, -10 ** 30), (10 ** 5000, 1, 0),
        ):
            self.check_refused(rule)

    def test_each_place_beyond_an_end_makes_none(self):
        for place in range(3):
            for number in (MOST + 1, -MOST - 1):
                self.check_refused(swapped((MOST, 0, -MOST), place, number))

    def test_no_whole_number_at_some_place_makes_none(self):
        for place in range(3):
            for rule in ((3, 1, 0), (1, 1, 0), (1, 0, 0), (2, 1, -1)):
                for thing in NO_NUMBERS:
                    self.check_refused(swapped(rule, place, thing))

    def test_the_refusal_is_one_of_the_program(self):
        with self.assertRaises(CupError):
            made_rule(0, 0, 0)

    def check_refused(self, rule):
        with self.subTest(places=[str(type(thing)) for thing in rule]), self.assertRaises(NoRule):
            made_rule(*rule)


class Gives(unittest.TestCase):

    rules = ((3, 1, 0), (7, 5, 2), (2, 2, 1), (5, -4, -4), (-1, -2, -3), (MOST, 0, -MOST))

    def test_the_winner_and_the_loser(self):
        for rule in self.rules:
            self.check(rule, (4, 9, 2, 1), {4: rule[0], 9: rule[2]})
            self.check(rule, (4, 9, 1, 2), {4: rule[2], 9: rule[0]})
            self.check(rule, (15, 0, 999, 0), {15: rule[0], 0: rule[2]})
            self.check(rule, (15, 0, 0, 999), {15: rule[2], 0: rule[0]})

    def test_both_of_a_draw(self):
        for rule in self.rules:
            self.check(rule, (4, 9, 0, 0), {4: rule[1], 9: rule[1]})
            self.check(rule, (0, 15, 999, 999), {0: rule[1], 15: rule[1]})

    def test_the_one_who_has_a_bye(self):
        for rule in self.rules:
            self.check(rule, (0,), {0: rule[0]})
            self.check(rule, (15,), {15: rule[0]})

    def check(self, rule, game, given):
        """Whoever isn't in given is given 0."""
        for player in range(16):
            with self.subTest(rule=rule, game=game, player=player):
                self.assertEqual(gives(rule, game, player), given.get(player, 0))


class PointsOf(unittest.TestCase):

    def test_no_games(self):
        for n in range(1, 17):
            self.assertEqual(points_of(RULE, [], n), [0] * n)
        self.assertEqual(points_of((-1, -2, -3), [], 2), [0, 0])

    def test_one_player(self):
        self.assertEqual(points_of(RULE, [(0,)], 1), [3])
        self.assertEqual(points_of(RULE, [(0,), (0,), (0,)], 1), [9])

    def test_wins_draws_losses_and_byes_together(self):
        games = [(0, 1, 2, 1), (2,), (1, 2, 0, 0), (0,), (2, 0, 5, 4), (1,)]
        self.assertEqual(points_of(RULE, games, 3), [6, 4, 7])
        self.assertEqual(points_of((7, 5, 2), games, 3), [16, 14, 19])

    def test_whoever_had_no_game_has_none(self):
        self.assertEqual(points_of(RULE, [(1, 3, 0, 1), (3,)], 5), [0, 0, 0, 6, 0])

    def test_sixteen_players_all_against_all(self):
        games = [(one, other, other, one) for one in range(16) for other in range(one)]
        self.assertEqual(points_of((1, 0, 0), games, 16), [15 - player for player in range(16)])
        draws = [(one, other, 7, 7) for one in range(16) for other in range(one)]
        self.assertEqual(points_of(RULE, draws, 16), [15] * 16)

    def test_the_same_game_counts_each_time(self):
        self.assertEqual(points_of(RULE, [(0, 1, 2, 1)] * 3, 2), [9, 0])
        self.assertEqual(points_of((3, 1, -1), [(0, 1, 1, 1), (1,), (1, 0, 2, 1)] * 2, 2), [0, 14])

    def test_three_hundred_games(self):
        games = [(0, 1, 1, 0), (1, 0, 1, 1), (1,)] * 100
        self.assertEqual(points_of((MOST, 1, -MOST), games, 2), [100 * MOST + 100, 100])

    def test_numbers_below_0(self):
        games = [(0, 1, 2, 1), (1, 2, 0, 0), (2,)]
        self.assertEqual(points_of((-1, -2, -3), games, 3), [-1, -5, -3])
        self.assertEqual(points_of((0, -5, -MOST), games, 3), [0, -MOST - 5, -5])

    def test_the_points_are_what_all_games_give(self):
        games = [(0, 1, 2, 1), (2,), (1, 2, 0, 0), (3, 1, 0, 9), (0, 3, 4, 4)]
        for rule in Gives.rules:
            given = [sum(gives(rule, game, player) for game in games) for player in range(4)]
            self.assertEqual(points_of(rule, games, 4), given)

    def test_the_games_handed_in_stay_as_they_were(self):
        games = [(0, 1, 2, 1), (2,), (1, 2, 0, 0)]
        points_of(RULE, games, 3)
        self.assertEqual(games, [(0, 1, 2, 1), (2,), (1, 2, 0, 0)])

    def test_games_changed_afterwards_change_nothing_told(self):
        games = [(0, 1, 2, 1)]
        told = points_of(RULE, games, 2)
        games.append((1,))
        games[0] = (1, 0, 9, 0)
        self.assertEqual(told, [3, 0])

    def test_the_told_list_is_the_askers_own(self):
        for games in ([], [(0, 1, 2, 1)]):
            first = points_of(RULE, games, 2)
            second = points_of(RULE, games, 2)
            wanted = list(second)
            first.append(99)
            first[0] = 98
            self.assertEqual(second, wanted)
            self.assertEqual(points_of(RULE, games, 2), wanted)
            self.assertIs(type(first), list)


if __name__ == "__main__":
    unittest.main()

"""Promises 2 and 5: what a game is, who won it, who played it."""

import unittest

from cupdraw.errors import CupError, NoGame
from cupdraw.games import checked_game, is_game, players_of, winner_of

GAMES = (
    (0, 1, 0, 0), (0, 15, 999, 999), (15, 0, 0, 999), (14, 15, 999, 0),
    (7, 3, 2, 1), (3, 7, 1, 2), (1, 0, 1, 1), (0,), (1,), (8,), (14,), (15,),
)

# Of any kind but a whole number; 1.0 and True are equal to 1 and are none, all the same.
NO_NUMBERS = (True, False, "1", "", None, [1], [], (1,), (), {}, {1: 1}, 1.0, 0.0, b"1", 1j, object(), int)


def swapped(game, place, thing):
    return game[:place] + (thing,) + game[place + 1:]


def wrong_contests():
    """Contests with one place spoilt."""
    game = (3, 7, 1, 1)
    ends = (16, 16, 1000, 1000)
    wrong = []
    for place, end in enumerate(ends):
        things = NO_NUMBERS + (-1, end, -1000000, 10 ** 30, -10 ** 30)
        wrong += [swapped(game, place, thing) for thing in things]
    return wrong


def wrong_byes():
    return [(thing,) for thing in NO_NUMBERS + (-1, 16, 10 ** 30, -10 ** 30)]


def wrong_tuples():
    alike = [(player, player, 2, 1) for player in range(16)]
    lengths = [(), (0, 1), (0, 1, 2), (0, 1, 2, 3, 4), (0, 1, 2, 3, None), (0, 1, 2, 3) * 2, ((0, 1, 2, 3),)]
    return alike + lengths + [(0, 1, None, None), (0, None), (None,) * 4, ((0,),)]


def other_kinds():
    return [thing for thing in NO_NUMBERS if not isinstance(thing, tuple)] + [
        0, 1, 15, -1, 10 ** 5000, "0 1 2 3", "(0,)", "abcd", "a",
        [0, 1, 2, 3], [0], [(0, 1, 2, 3)], {0: 1, 1: 2, 2: 3, 3: 4}, {0, 1, 2, 3}, range(4), range(1),
    ]


def no_games():
    return wrong_contests() + wrong_byes() + wrong_tuples() + other_kinds()


class IsGame(unittest.TestCase):

    def test_contests_and_byes_are_games(self):
        for game in GAMES:
            with self.subTest(game=game):
                self.assertIs(is_game(game), True)

    def test_every_player_has_byes_and_meets_every_other_one(self):
        for one in range(16):
            self.assertIs(is_game((one,)), True)
            for other in range(16):
                self.assertIs(is_game((one, other, 0, 0)), one != other)

    def test_all_marks_may_be_had(self):
        for marks in range(1000):
            self.assertIs(is_game((0, 1, marks, 999 - marks)), True)

    def test_spoilt_contests_are_none(self):
        self.check_none(wrong_contests())

    def test_spoilt_byes_are_none(self):
        self.check_none(wrong_byes())

    def test_players_alike_and_wrong_lengths_are_none(self):
        self.check_none(wrong_tuples())

    def test_things_of_other_kinds_are_none(self):
        self.check_none(other_kinds())

    def check_none(self, things):
        for number, thing in enumerate(things):
            with self.subTest(number=number):
                self.assertIs(is_game(thing), False)


class CheckedGame(unittest.TestCase):

    def test_a_game_is_told_as_an_equal_tuple(self):
        for game in GAMES:
            with self.subTest(game=game):
                self.assertEqual(checked_game(game), game)
                self.assertIs(type(checked_game(game)), tuple)

    def test_all_else_is_refused(self):
        for number, thing in enumerate(no_games()):
            with self.subTest(number=number), self.assertRaises(NoGame):
                checked_game(thing)

    def test_the_refusal_is_one_of_the_program(self):
        with self.assertRaises(CupError):
            checked_game(None)

    def test_a_refused_list_stays_as_it_was(self):
        things = [0, 1, 2, 3]
        with self.assertRaises(NoGame):
            checked_game(things)
        self.assertEqual(things, [0, 1, 2, 3])


class WinnerOf(unittest.TestCase):

    def test_home_has_more(self):
        for game in ((4, 9, 1, 0), (9, 4, 1, 0), (0, 15, 999, 0), (15, 0, 999, 998), (2, 1, 10, 9)):
            with self.subTest(game=game):
                self.assertEqual(winner_of(game), game[0])

    def test_away_has_more(self):
        for game in ((4, 9, 0, 1), (9, 4, 0, 1), (0, 15, 0, 999), (15, 0, 998, 999), (2, 1, 9, 10)):
            with self.subTest(game=game):
                self.assertEqual(winner_of(game), game[1])

    def test_the_player_0_is_told_when_it_won(self):
        self.assertEqual(winner_of((0, 1, 1, 0)), 0)
        self.assertEqual(winner_of((1, 0, 0, 1)), 0)
        self.assertIsNot(winner_of((0, 1, 1, 0)), None)

    def test_nobody_wins_a_draw(self):
        for game in ((4, 9, 0, 0), (9, 4, 1, 1), (0, 15, 999, 999)):
            with self.subTest(game=game):
                self.assertIsNone(winner_of(game))

    def test_nobody_wins_a_bye(self):
        for player in range(16):
            self.assertIsNone(winner_of((player,)))


class PlayersOf(unittest.TestCase):

    def test_home_comes_first(self):
        self.assertEqual(players_of((4, 9, 0, 1)), [4, 9])
        self.assertEqual(players_of((9, 4, 0, 1)), [9, 4])
        self.assertEqual(players_of((15, 0, 1, 0)), [15, 0])
        self.assertEqual(players_of((0, 15, 3, 3)), [0, 15])

    def test_a_bye_has_one_player(self):
        for player in range(16):
            self.assertEqual(players_of((player,)), [player])

    def test_a_list_is_told(self):
        self.assertIs(type(players_of((4, 9, 0, 1))), list)
        self.assertIs(type(players_of((4,))), list)

    def test_the_list_is_a_new_one_each_time(self):
        for game in ((4, 9, 0, 1), (4,)):
            with self.subTest(game=game):
                first = players_of(game)
                second = players_of(game)
                first.append(99)
                first[0] = 98
                self.assertEqual(second, list(game[:2]))
                self.assertEqual(players_of(game), list(game[:2]))


if __name__ == "__main__":
    unittest.main()

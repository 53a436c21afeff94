"""Promise 7: the seven words, and the worths of players by them."""

import itertools
import random
import string
import unittest

from cupdraw import parters
from cupdraw.errors import CupError, NoRule
from cupdraw.parters import Parter, parter

WORDS = ("points", "among", "marks", "gap", "wins", "away", "met")
CLASSES = ("Points", "Among", "Marks", "Gap", "Wins", "Away", "Met")
RULE = (3, 1, 0)
OTHER_RULE = (5, 2, -1)
ALL = [0, 1, 2, 3]

# 0 and 1 met twice, 3 and 0 have a bye each, two contests are draws, two are won away from home.
GAMES = (
    (0, 1, 3, 1), (1, 0, 2, 2), (2, 0, 0, 4), (1, 2, 5, 0),
    (3, 1, 1, 2), (3,), (2, 3, 1, 1), (0,),
)

NO_TEXTS = (
    None, True, False, 0, 1, -1, 7, 10 ** 30, 1.0, b"points", ["points"], [], [[]], ("points",), (), {}, {"points": 1},
    {"points"}, frozenset(("gap",)), object(), str, Parter, parters.Points(), range(7),
)


class AlwaysEqual:
    """A thing that is no word, whatever it says."""

    def __eq__(self, other):
        return True

    __hash__ = None


def worths(word, games=GAMES, rule=RULE, group=ALL):
    return [parter(word).worth(rule, list(games), list(group), player) for player in group]


def plain_worth(word, rule, games, group, player):
    """The worth, told contest by contest as the player saw it."""
    def points_for(one, some):
        total = 0
        for game in some:
            if game == (one,):
                total += rule[0]
            elif len(game) == 4 and one in game[:2]:
                mine, its = game[2:] if game[0] == one else (game[3], game[2])
                total += rule[0 if mine > its else 1 if mine == its else 2]
        return total

    seen = [(game[1], game[2], game[3], "home") for game in games if len(game) == 4 and game[0] == player]
    seen += [(game[0], game[3], game[2], "away") for game in games if len(game) == 4 and game[1] == player]
    within = [game for game in games if len(game) == 4 and set(game[:2]) <= set(group)]
    return {
        "points": points_for(player, games),
        "among": points_for(player, within),
        "marks": sum(mine for _, mine, _, _ in seen),
        "gap": sum(mine - its for _, mine, its, _ in seen),
        "wins": sum(mine > its for _, mine, its, _ in seen),
        "away": sum(mine > its for _, mine, its, side in seen if side == "away"),
        "met": sum(points_for(other, games) for other, _, _, _ in seen),
    }[word]


def some_games(chance, n, length):
    games = []
    for _ in range(length):
        home, away = chance.sample(range(n), 2)
        contest = (home, away, chance.randrange(4), chance.randrange(4))
        games.append((home,) if chance.randrange(6) == 0 else contest)
    return games


class Words(unittest.TestCase):

    def test_each_word_has_a_class_under_parter(self):
        for word, name in zip(WORDS, CLASSES):
            with self.subTest(word=word):
                made = getattr(parters, name)()
                self.assertIsInstance(made, Parter)
                self.assertEqual(made.word(), word)
                self.assertIs(type(made.word()), str)

    def test_parter_makes_an_object_of_the_class_for_the_word(self):
        for word, name in zip(WORDS, CLASSES):
            with self.subTest(word=word):
                self.assertIs(type(parter(word)), getattr(parters, name))
                self.assertEqual(parter(word).word(), word)

    def test_the_classes_are_unlike_and_none_stands_under_another(self):
        made = [getattr(parters, name) for name in CLASSES]
        for one, other in itertools.permutations(made, 2):
            self.assertFalse(issubclass(one, other))

    def test_a_made_object_and_that_of_parter_tell_the_same(self):
        for word, name in zip(WORDS, CLASSES):
            made = getattr(parters, name)()
            for player in ALL:
                told = made.worth(RULE, list(GAMES), ALL, player)
                self.assertEqual(told, parter(word).worth(RULE, list(GAMES), ALL, player))


class Refused(unittest.TestCase):

    def test_a_sign_put_in(self):
        for word in WORDS:
            for place in range(len(word) + 1):
                for sign in string.printable:
                    self.check(word[:place] + sign + word[place:])

    def test_a_sign_taken_out(self):
        for word in WORDS:
            for place in range(len(word)):
                self.check(word[:place] + word[place + 1:])

    def test_a_sign_exchanged(self):
        for word in WORDS:
            for place in range(len(word)):
                for sign in string.printable:
                    if sign != word[place]:
                        self.check(word[:place] + sign + word[place + 1:])

    def test_two_signs_swapped(self):
        for word in WORDS:
            for place in range(len(word) - 1):
                swapped = word[:place] + word[place + 1] + word[place] + word[place + 2:]
                if swapped != word:
                    self.check(swapped)

    def test_other_texts(self):
        for text in ("", " ", "floats", "sides", "home", "bye", "draw", "Parter", "p" * 4000, "points among"):
            self.check(text)
        for word, name in zip(WORDS, CLASSES):
            for text in (name, word.upper(), word + word, word + " ", " " + word, word + "\n", word[::-1]):
                self.check(text)

    def test_things_of_any_kind(self):
        for thing in NO_TEXTS + (AlwaysEqual(),):
            self.check(thing)

    def check(self, thing):
        with self.subTest(kind=str(type(thing))), self.assertRaises(CupError) as taken:
            parter(thing)
        self.assertIs(type(taken.exception), NoRule)


class Worths(unittest.TestCase):

    def test_points(self):
        self.assertEqual(worths("points"), [10, 7, 1, 4])
        self.assertEqual(worths("points", rule=OTHER_RULE), [17, 11, 0, 6])

    def test_points_count_games_with_those_outside_the_group(self):
        self.assertEqual(worths("points", group=[2, 3]), [1, 4])
        self.assertEqual(worths("points", group=[3]), [4])

    def test_among_all_leaves_the_byes_out(self):
        self.assertEqual(worths("among"), [7, 7, 1, 1])
        self.assertEqual(worths("among", rule=OTHER_RULE), [12, 11, 0, 1])

    def test_among_some(self):
        self.assertEqual(worths("among", group=[0, 1]), [4, 1])
        self.assertEqual(worths("among", group=[1, 2, 3]), [6, 1, 1])
        self.assertEqual(worths("among", group=[2, 3]), [1, 1])
        self.assertEqual(worths("among", group=[0, 3]), [0, 0])
        self.assertEqual(worths("among", group=[0, 2], rule=OTHER_RULE), [5, -1])
        self.assertEqual(worths("among", group=[0, 1], rule=OTHER_RULE), [7, 1])

    def test_among_one_alone(self):
        for player in ALL:
            self.assertEqual(worths("among", group=[player]), [0])
            self.assertEqual(worths("among", group=[player], rule=OTHER_RULE), [0])

    def test_marks(self):
        self.assertEqual(worths("marks"), [9, 10, 1, 2])
        self.assertEqual(worths("marks", games=[(0, 1, 999, 998)] * 3, group=[0, 1]), [2997, 2994])

    def test_gap(self):
        self.assertEqual(worths("gap"), [6, 4, -9, -1])
        self.assertEqual(worths("gap", games=[(0, 1, 0, 999), (2, 0, 5, 5)], group=[0, 1, 2]), [-999, 999, 0])

    def test_wins_leave_byes_and_draws_out(self):
        self.assertEqual(worths("wins"), [2, 2, 0, 0])
        self.assertEqual(worths("wins", games=[(0,), (1, 0, 2, 2), (1, 0, 3, 2), (1, 0, 3, 2)], group=[0, 1]), [0, 2])

    def test_away(self):
        self.assertEqual(worths("away"), [1, 1, 0, 0])
        self.assertEqual(worths("away", games=[(0, 1, 0, 1), (0, 1, 0, 2), (1, 0, 1, 0)], group=[0, 1]), [0, 2])
        self.assertEqual(worths("away", games=[(0,), (1,), (0, 1, 1, 1)], group=[0, 1]), [0, 0])

    def test_met_counts_as_often_as_they_met_and_the_byes_of_the_other(self):
        self.assertEqual(worths("met"), [15, 25, 21, 8])
        self.assertEqual(worths("met", rule=OTHER_RULE), [22, 40, 34, 11])

    def test_the_own_bye_meets_nobody(self):
        self.assertEqual(worths("met", games=[(0,), (0,)], group=[0]), [0])
        self.assertEqual(worths("met", games=[(0,), (0, 1, 0, 0)], group=[0, 1]), [1, 4])

    def test_all_words_but_among_see_the_games_outside_the_group(self):
        whole = {word: worths(word) for word in WORDS if word != "among"}
        for size in range(1, 5):
            for group in itertools.combinations(ALL, size):
                for word in whole:
                    self.assertEqual(worths(word, group=group), [whole[word][player] for player in group])

    def test_no_games(self):
        for word in WORDS:
            self.assertEqual(worths(word, games=[]), [0, 0, 0, 0])
            self.assertEqual(worths(word, games=[], rule=(-1, -2, -3), group=[15]), [0])

    def test_the_order_of_group_and_games_is_all_one(self):
        for word in WORDS:
            forward = worths(word, group=[0, 1, 3])
            self.assertEqual(worths(word, games=GAMES[::-1], group=[3, 1, 0]), forward[::-1])

    def test_whole_numbers_are_told(self):
        for word in WORDS:
            self.assertTrue(all(type(worth) is int for worth in worths(word)), word)

    def test_many_games(self):
        chance = random.Random(7)
        for number in range(60):
            n = chance.randrange(2, 17)
            games = some_games(chance, n, chance.randrange(40))
            group = sorted(chance.sample(range(n), chance.randrange(1, n + 1)))
            rule = chance.choice((RULE, OTHER_RULE, (2, 2, 1), (-1, -2, -3), (10 ** 6, 0, -10 ** 6)))
            for word in WORDS:
                wanted = [plain_worth(word, rule, games, group, player) for player in group]
                with self.subTest(word=word, rule=rule, games=games, group=group):
                    self.assertEqual(worths(word, games, rule, group), wanted)


class AskedAgain(unittest.TestCase):

    def test_one_object_tells_what_is_so_then(self):
        later = [(3, 0, 2, 0), (1, 2, 4, 4), (2, 1, 0, 3), (0,)]
        asked = [(RULE, GAMES), (RULE, later), (OTHER_RULE, later), (OTHER_RULE, GAMES), (RULE, []), (RULE, GAMES)]
        for word in WORDS:
            way = parter(word)
            for rule, games in asked:
                for group in (ALL, [0, 1], [1, 2, 3]):
                    told = [way.worth(rule, list(games), group, player) for player in group]
                    self.assertEqual(told, [plain_worth(word, rule, games, group, player) for player in group])

    def test_one_object_sees_games_that_came_to_the_same_list(self):
        wanted = {"points": 4, "among": 4, "marks": 4, "gap": 2, "wins": 1, "away": 1, "met": 2}
        for word in WORDS:
            way, games = parter(word), []
            self.assertEqual(way.worth(RULE, games, [0, 1], 0), 0)
            games.append((1, 0, 0, 2))
            way.worth(RULE, games, [0, 1], 0)
            games.append((0, 1, 2, 2))
            self.assertEqual(way.worth(RULE, games, [0, 1], 0), wanted[word])

    def test_what_is_handed_in_stays_as_it_was(self):
        for word in WORDS:
            games, group = list(GAMES), [3, 0, 1]
            parter(word).worth(RULE, games, group, 0)
            self.assertEqual((games, group), (list(GAMES), [3, 0, 1]))


if __name__ == "__main__":
    unittest.main()

"""Promise 8: rules, and how they are written."""

import itertools
import unittest

from cupdraw.errors import CupError, NoRule, NoText
from cupdraw.rules import Rules, read_rules

WORDS = ("points", "among", "marks", "gap", "wins", "away", "met")
MOST = 1000000
RULES_OF_POINTS = (
    (3, 1, 0), (2, 1, 0), (1, 0, 0), (1, 1, 0), (1, 0, -1), (0, -1, -2), (-1, -2, -3), (-10, -10, -20), (10, 0, -10),
    (MOST, 0, -MOST), (MOST, MOST, -MOST), (MOST, -MOST, -MOST), (1 - MOST, -MOST, -MOST), (MOST, MOST, MOST - 1),
)
NO_RULES_OF_POINTS = (
    (0, 0, 0), (1, 3, 0), (3, 0, 1), (0, 1, 0), (MOST + 1, 1, 0), (3, 1, -MOST - 1), (3, 3, 3), (0, 1, 3),
    (10 ** 5000, 1, 0),
)
# None of these is a text, a list of words or a rule of points.
THINGS = (
    None, True, False, 0, 1, 3, -1, 10 ** 30, 1.0, b"points", [], {}, (), [[]], [None], (None,), {"points": 1},
    {"points"}, object(), str, Rules,
)


class Refusals(unittest.TestCase):

    def check(self, refusal, ask, *things):
        with self.subTest(kinds=[str(type(thing)) for thing in things]), self.assertRaises(CupError) as taken:
            ask(*things)
        self.assertIs(type(taken.exception), refusal)


class Made(unittest.TestCase):

    def test_rule_and_words_are_told(self):
        rules = Rules((3, 1, 0), ["points", "among", "gap"])
        self.assertEqual(rules.rule_of(), (3, 1, 0))
        self.assertEqual(rules.words_of(), ["points", "among", "gap"])
        self.assertIs(type(rules.rule_of()), tuple)
        self.assertIs(type(rules.words_of()), list)

    def test_shown(self):
        self.assertEqual(Rules((3, 1, 0), ["points", "among", "gap"]).shown(), "3 1 0: points among gap")
        self.assertEqual(Rules((1, 0, -1), ["met"]).shown(), "1 0 -1: met")
        self.assertEqual(Rules((-1, -2, -3), list(WORDS)).shown(), "-1 -2 -3: points among marks gap wins away met")
        self.assertEqual(Rules((MOST, 0, -MOST), ["wins", "away"]).shown(), "1000000 0 -1000000: wins away")

    def test_words_in_any_order_are_read_again(self):
        for size in range(1, 8):
            for words in itertools.permutations(WORDS, size):
                self.check_read_again((3, 1, 0), list(words))

    def test_all_rules_of_points_are_read_again(self):
        for rule in RULES_OF_POINTS:
            self.check_read_again(rule, ["gap", "points"])
        for number in range(-1200, 1200):
            self.check_read_again((number, number - 1, number - 2), ["met"])

    def check_read_again(self, rule, words):
        text = Rules(rule, words).shown()
        self.assertEqual(text, "%d %d %d: %s" % (rule + (" ".join(words),)))
        again = read_rules(text)
        self.assertIs(type(again), Rules)
        self.assertEqual((again.rule_of(), again.words_of(), again.shown()), (rule, words, text))


class OwnLists(unittest.TestCase):

    def test_the_list_handed_in_may_be_changed_afterwards(self):
        words = ["points", "gap"]
        rules = Rules((3, 1, 0), words)
        self.assertEqual(words, ["points", "gap"])
        words.append("met")
        words[0] = "none"
        self.assertEqual(rules.words_of(), ["points", "gap"])
        self.assertEqual(rules.shown(), "3 1 0: points gap")

    def test_the_lists_told_are_the_askers_own(self):
        for rules in (Rules((3, 1, 0), ["points", "gap"]), read_rules("3 1 0: points gap")):
            first, second = rules.words_of(), rules.words_of()
            first.append("met")
            first[0] = "none"
            self.assertEqual(second, ["points", "gap"])
            self.assertEqual(rules.words_of(), ["points", "gap"])
            self.assertEqual(rules.shown(), "3 1 0: points gap")

    def test_two_made_of_one_list_share_nothing(self):
        words = ["points", "gap"]
        one, other = Rules((3, 1, 0), words), Rules((2, 1, 0), words)
        one.words_of().clear()
        words.clear()
        self.assertEqual((one.shown(), other.shown()), ("3 1 0: points gap", "2 1 0: points gap"))


class RulesRefused(Refusals):

    def test_a_rule_that_is_none(self):
        for rule in NO_RULES_OF_POINTS:
            self.check(NoRule, Rules, rule, ["points"])

    def test_a_rule_of_other_kinds(self):
        others = ("", "3 1 0", "310", [3, 1, 0], {3: 1, 1: 1, 0: 1}, (3, 1), (3, 1, 0, 0), (3,), ((3, 1, 0),), range(3))
        for thing in THINGS + others:
            self.check(NoRule, Rules, thing, ["points"])

    def test_a_rule_with_something_else_at_a_place(self):
        for place in range(3):
            for thing in (None, True, False, "1", "", [1], (1,), {}, 1.0, object()):
                for rule in ((3, 1, 0), (1, 1, 0), (1, 0, 0)):
                    self.check(NoRule, Rules, rule[:place] + (thing,) + rule[place + 1:], ["points"])

    def test_no_words(self):
        self.check(NoRule, Rules, (3, 1, 0), [])

    def test_a_word_twice(self):
        for word, other in itertools.permutations(WORDS, 2):
            for words in ([word, word], [word, other, word], [other, word, word], [word, word, other]):
                self.check(NoRule, Rules, (3, 1, 0), words)

    def test_eight_words_and_more(self):
        for word in WORDS:
            self.check(NoRule, Rules, (3, 1, 0), list(WORDS) + [word])
            self.check(NoRule, Rules, (3, 1, 0), [word] + list(WORDS))
        self.check(NoRule, Rules, (3, 1, 0), list(WORDS) + ["floats"])
        self.check(NoRule, Rules, (3, 1, 0), ["points"] * 300)

    def test_a_word_that_is_none(self):
        for word in ("", " ", "Points", "points ", " points", "point", "floats", "sides", "points among", "gap\n"):
            for words in ([word], ["points", word], [word, "points"], ["points", word, "gap"]):
                self.check(NoRule, Rules, (3, 1, 0), words)

    def test_a_word_that_is_no_text(self):
        for thing in THINGS + (["points"], ("points",)):
            for words in ([thing], ["points", thing], [thing, "points"], [thing, thing]):
                self.check(NoRule, Rules, (3, 1, 0), words)

    def test_no_list_of_words(self):
        others = ("points", "", "points gap", ("points",), ("points", "gap"), {"points": 1}, {"points"}, iter(["gap"]))
        for thing in THINGS + others:
            self.check(NoRule, Rules, (3, 1, 0), thing)

    def test_nothing_right_at_all(self):
        for thing in THINGS:
            self.check(NoRule, Rules, thing, thing)


class ReadRulesRefused(Refusals):

    def test_what_is_no_text(self):
        for thing in THINGS + (["3 1 0: points"], ("3 1 0: points",), Rules((3, 1, 0), ["points"]), (3, 1, 0)):
            self.check(NoText, read_rules, thing)

    def test_numbers_that_make_no_rule_of_points(self):
        for rule in NO_RULES_OF_POINTS[:-1]:
            self.check(NoText, read_rules, "%d %d %d: points" % rule)

    def test_a_0_ahead_of_figures(self):
        for numbers in ("03 1 0", "3 01 0", "3 1 00", "3 -01 -2", "3 1 -00", "3 1 -01", "00 -1 -2", "-01 -2 -3"):
            self.check(NoText, read_rules, numbers + ": points")

    def test_0_below_0(self):
        for numbers in ("3 1 -0", "3 -0 -1", "-0 -1 -2", "3 -0 0", "3 -0 -0"):
            self.check(NoText, read_rules, numbers + ": points")

    def test_numbers_that_are_written_otherwise(self):
        for number in ("+3", "3.0", "--3", "3-", "-", "", "1_0", "0x3", "3e1", "three", "III", "(3)", "3,", "\t3", "3\n"):
            self.check(NoText, read_rules, number + " 1 0: points")
            self.check(NoText, read_rules, "9 " + number + " 0: points")
        for number in ("+0", "0.0", "-", "", "0_0", "0:", "0,", "0\t", "\n0", "00", "-0"):
            self.check(NoText, read_rules, "3 1 " + number + ": points")

    def test_figures_of_other_scripts(self):
        for figure in ("\u0663", "\uff13", "\u00b3", "\u00bd", "\u0969"):
            self.check(NoText, read_rules, figure + " 1 0: points")

    def test_very_many_figures(self):
        for length in (7, 30, 3900, 4400, 9000):
            self.check(NoText, read_rules, "9" * length + " 1 0: points")
            self.check(NoText, read_rules, "3 1 -" + "9" * length + ": points")
            self.check(NoText, read_rules, "0" * length + " -1 -2: points")

    def test_too_few_and_too_many_numbers(self):
        for numbers in ("", "3", "3 1", "3 1 0 0", "3 2 1 0", "3 1 0 points"):
            self.check(NoText, read_rules, numbers + ": points")

    def test_blanks_too_many(self):
        text = "3 1 -1: points among gap"
        for place in range(len(text) + 1):
            self.check(NoText, read_rules, text[:place] + " " + text[place:])

    def test_blanks_too_few_or_other_ones(self):
        text = "3 1 -1: points among gap"
        for place, sign in enumerate(text):
            if sign == " ":
                for other in ("", "\t", "\n", "\r", "\f", "\u00a0", ",", "_"):
                    self.check(NoText, read_rules, text[:place] + other + text[place + 1:])

    def test_line_ends(self):
        for end in ("\n", "\r", "\r\n", "\n\n", "\x0b", "\x1c"):
            self.check(NoText, read_rules, "3 1 0: points" + end)
            self.check(NoText, read_rules, end + "3 1 0: points")
            self.check(NoText, read_rules, "3 1 0:" + end + "points")
            self.check(NoText, read_rules, "3 1 0: points" + end + "gap")

    def test_the_colon_in_another_place(self):
        for text in (
            "3 1 0 points", "3 1 0 : points", "3 1 0 :points", "3 1 0:points", "3 1: 0 points", "3: 1 0 points",
            "3 1 0:: points", "3 1 0: : points", "3 1 0: points:", "3 1 0: points: gap", ": 3 1 0: points",
            "3 1 0; points", "3: 1: 0: points", ":", ": ", "3 1 0: points: ", "points: 3 1 0",
        ):
            self.check(NoText, read_rules, text)

    def test_no_words(self):
        for text in ("3 1 0", "3 1 0:", "3 1 0: ", "3 1 0:  ", "", " ", "points", "points among gap"):
            self.check(NoText, read_rules, text)

    def test_a_word_twice_and_eight_words(self):
        for word in WORDS:
            self.check(NoText, read_rules, f"3 1 0: {word} {word}")
            self.check(NoText, read_rules, "3 1 0: " + " ".join(WORDS) + " " + word)
        self.check(NoText, read_rules, "3 1 0: " + " ".join(["gap"] * 900))

    def test_a_word_that_is_none(self):
        for word in ("Points", "point", "pointss", "floats", "sides", "none", "1", "*", "points,", "gap;"):
            self.check(NoText, read_rules, "3 1 0: " + word)
            self.check(NoText, read_rules, "3 1 0: points " + word)
            self.check(NoText, read_rules, "3 1 0: " + word + " points")

    def test_every_sign_taken_out_but_one_that_leaves_rules(self):
        text = "3 1 -1: points among gap"
        for place in range(len(text)):
            shorter = text[:place] + text[place + 1:]
            if shorter != "3 1 1: points among gap":
                self.check(NoText, read_rules, shorter)
        self.assertEqual(read_rules("3 1 1: points among gap").rule_of(), (3, 1, 1))


if __name__ == "__main__":
    unittest.main()

"""Rules: a rule of points, and the words by which equals are parted, in their order."""

from cupdraw.errors import NoRule, NoText
from cupdraw.parters import parter
from cupdraw.points import made_rule
from cupdraw.wholes import read_whole


def checked_rule(thing):
    """The rule of points that a thing of any kind is; what is none is refused with NoRule."""
    if not isinstance(thing, tuple) or len(thing) != 3:
        raise NoRule("a rule of points is a tuple (win, draw, loss)")
    return made_rule(thing[0], thing[1], thing[2])


def checked_words(thing):
    """The unlike words that a thing of any kind lists, as a new list; what lists none so is refused with NoRule."""
    if not isinstance(thing, list) or len(thing) == 0:
        raise NoRule("rules have a list of 1 to 7 words")
    words = [parter(word).word() for word in thing]
    # There are seven words, so of more than seven some are alike.
    if len(set(words)) != len(words):
        raise NoRule("the words of rules are unlike")
    return words


class Rules:
    """A rule of points, and one to seven unlike words; what makes no rules is refused with NoRule."""

    def __init__(self, rule, words):
        self.kept_rule = checked_rule(rule)
        self.kept_words = checked_words(words)

    def rule_of(self):
        """The rule of points."""
        return self.kept_rule

    def words_of(self):
        """The words in their order, as a new list."""
        return list(self.kept_words)

    def shown(self):
        """The text that writes these rules."""
        numbers = " ".join([str(number) for number in self.kept_rule])
        words = " ".join(self.kept_words)
        return f"{numbers}: {words}"


def read_rules(text):
    """The Rules that a text writes; a thing of any kind that writes none is refused with NoText."""
    if not isinstance(text, str):
        raise NoText("rules are written as a text")
    sides = text.partition(": ")
    numbers = [read_whole(number) for number in sides[0].split(" ")]
    try:
        return Rules(tuple(numbers), sides[2].split(" "))
    except NoRule:
        raise NoText("rules are written as 3 1 0: points among gap") from None

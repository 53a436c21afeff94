"""What parts equals: the worth of a player in a group, by one of seven words."""

from cupdraw.errors import NoRule
from cupdraw.games import contests_of, is_bye, marks_of, other_of, winner_of
from cupdraw.points import player_points, points_by_player


def gap_of(contest, player):
    """The marks of a player in a contest of its own, less those of the other one."""
    return marks_of(contest, player) - marks_of(contest, other_of(contest, player))


def is_among(game, group):
    """Whether a game is a contest of two players of a group."""
    return not is_bye(game) and game[0] in group and game[1] in group


class Parter:
    """One way to tell the worth of a player; the classes under it are the seven ways."""

    def word(self):
        """The word for this way."""
        return ""

    def worth(self, rule, games, group, player):
        """The worth of a player of the group, by a rule of points and games."""
        return 0


class Points(Parter):
    """The player's points."""

    def word(self):
        return "points"

    def worth(self, rule, games, group, player):
        return player_points(rule, games, player)


class Among(Parter):
    """What the contests within the group give."""

    def word(self):
        return "among"

    def worth(self, rule, games, group, player):
        return player_points(rule, [game for game in games if is_among(game, group)], player)


class Marks(Parter):
    """The marks that the player had."""

    def word(self):
        return "marks"

    def worth(self, rule, games, group, player):
        return sum([marks_of(contest, player) for contest in contests_of(games, player)])


class Gap(Parter):
    """The marks that the player had, less those that the others had against it."""

    def word(self):
        return "gap"

    def worth(self, rule, games, group, player):
        return sum([gap_of(contest, player) for contest in contests_of(games, player)])


class Wins(Parter):
    """How many contests the player won."""

    def word(self):
        return "wins"

    def worth(self, rule, games, group, player):
        return len([game for game in games if winner_of(game) == player])


class Away(Parter):
    """How many contests the player won away from home."""

    def word(self):
        return "away"

    def worth(self, rule, games, group, player):
        return len([game for game in games if winner_of(game) == player and game[0] != player])


class Met(Parter):
    """The points of those whom the player met, as often as they met."""

    def word(self):
        return "met"

    def worth(self, rule, games, group, player):
        points = points_by_player(rule, games)
        return sum([points[other_of(contest, player)] for contest in contests_of(games, player)])


def parter(word):
    """A new parter for a word; for a thing of any kind that is none of the seven words NoRule is raised."""
    # Only a text is compared: a thing of another kind might say that it is equal.
    if isinstance(word, str):
        for way in [Points(), Among(), Marks(), Gap(), Wins(), Away(), Met()]:
            if way.word() == word:
                return way
    raise NoRule("a word is one of points, among, marks, gap, wins, away, met")

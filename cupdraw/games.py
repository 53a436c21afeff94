"""Games: contests (home, away, x, y) of two players with their marks, and byes (player,)."""

from cupdraw.errors import NoGame
from cupdraw.wholes import is_between

LAST_PLAYER = 15
MOST_MARKS = 999


def is_player(thing):
    """Whether a thing of any kind is a player."""
    return is_between(thing, 0, LAST_PLAYER)


def are_marks(thing):
    """Whether a thing of any kind is what a player may have as its marks in a contest."""
    return is_between(thing, 0, MOST_MARKS)


def is_game(thing):
    """Whether a thing of any kind is a contest or a bye."""
    if not isinstance(thing, tuple):
        return False
    if len(thing) == 1:
        return is_player(thing[0])
    if len(thing) != 4:
        return False
    if not is_player(thing[0]) or not is_player(thing[1]):
        return False
    return thing[0] != thing[1] and are_marks(thing[2]) and are_marks(thing[3])


def checked_game(thing):
    """The game that a thing of any kind is; what is no game is refused with NoGame."""
    if not is_game(thing):
        # The thing isn't shown: not everything can be written out.
        raise NoGame("a game is a contest (home, away, x, y) or a bye (player,)")
    return thing


def is_bye(game):
    """Whether a game is a bye."""
    return len(game) == 1


def winner_of(game):
    """The player who won a contest; None for a draw and for a bye."""
    if is_bye(game) or game[2] == game[3]:
        return None
    return game[0] if game[2] > game[3] else game[1]


def players_of(game):
    """The players of a game, home first, as a new list."""
    return list(game[:2])


def contests_of(games, player):
    """The contests among the games in which a player was, in their order, as a new list."""
    return [game for game in games if not is_bye(game) and player in players_of(game)]


def other_of(contest, player):
    """The one whom a player met in a contest of its own."""
    return contest[1] if contest[0] == player else contest[0]


def marks_of(contest, player):
    """The marks that a player had in a contest of its own."""
    return contest[2] if contest[0] == player else contest[3]

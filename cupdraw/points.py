"""Rules of points (win, draw, loss), and the points that games give by them."""

from cupdraw.errors import NoRule
from cupdraw.games import is_bye, players_of, winner_of
from cupdraw.wholes import is_between

MOST_POINTS = 1000000


def are_points(thing):
    """Whether a thing of any kind is what a rule may give for a game."""
    return is_between(thing, -MOST_POINTS, MOST_POINTS)


def made_rule(win, draw, loss):
    """The rule of points with these numbers; what makes none is refused with NoRule."""
    if not are_points(win) or not are_points(draw) or not are_points(loss):
        raise NoRule("a rule of points is of whole numbers from -1,000,000 to 1,000,000")
    if win < draw or draw < loss or win == loss:
        raise NoRule("a win gives no less than a draw, a draw no less than a loss, a win more than a loss")
    return (win, draw, loss)


def gives(rule, game, player):
    """What a game gives to a player."""
    if player not in players_of(game):
        return 0
    if is_bye(game):
        return rule[0]
    winner = winner_of(game)
    if winner is None:
        return rule[1]
    return rule[0] if winner == player else rule[2]


def player_points(rule, games, player):
    """What all the games give to one player."""
    return sum([gives(rule, game, player) for game in games])


def points_by_player(rule, games):
    """What all the games give to each player who is in one of them, as a new dict."""
    points = {}
    for game in games:
        for player in players_of(game):
            points[player] = points.get(player, 0) + gives(rule, game, player)
    return points


def points_of(rule, games, n):
    """The points of the players 0 to n - 1, as a new list."""
    points = points_by_player(rule, games)
    return [points.get(player, 0) for player in range(n)]

"""Sides in games played: how far a player leans to home or away, which side it wants, and whom it has met."""

from cupdraw.games import contests_of, other_of

OTHER_SIDES = {"home": "away", "away": "home"}


def sides_played(games, player):
    """The sides of a player in its contests, in their order, as a new list."""
    return ["home" if contest[0] == player else "away" for contest in contests_of(games, player)]


def lean_of(games, player):
    """How many contests a player had at home, less those that it had away."""
    sides = sides_played(games, player)
    return sides.count("home") - sides.count("away")


def last_side(games, player):
    """The side of a player in its last contest; None where it had none."""
    sides = sides_played(games, player)
    return sides[-1] if len(sides) > 0 else None


def wanted_side(games, player):
    """The side against the lean of a player, or else against its last side; None where it had no contest."""
    lean = lean_of(games, player)
    if lean > 0:
        return "away"
    if lean < 0:
        return "home"
    return OTHER_SIDES.get(last_side(games, player))


def have_met(games, one, other):
    """Whether two players were in one contest; nobody has met itself."""
    return other in [other_of(contest, one) for contest in contests_of(games, one)]


def had_bye(games, player):
    """Whether a player had a bye."""
    return (player,) in games

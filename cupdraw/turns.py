"""Turns: the sides on which a player comes in rounds of pairs (home, away), and how often one comes twice running."""


def side_in(pairs, player):
    """The side of a player in one round."""
    for home, away in pairs:
        if player == home:
            return "home"
        if player == away:
            return "away"
    return "free"


def sides_of(rounds, player):
    """The side of a player in each of the rounds, as a list."""
    return [side_in(pairs, player) for pairs in rounds]


def turns_of(rounds, player):
    """How often a player has the same side twice running, the rounds in which it is free left out."""
    sides = [side for side in sides_of(rounds, player) if side != "free"]
    return len([number for number in range(1, len(sides)) if sides[number] == sides[number - 1]])


def all_turns(rounds, n):
    """The turns of the players 0 to n - 1 together."""
    return sum([turns_of(rounds, player) for player in range(n)])

"""The table of sums: for sets of players, told as numbers, the least sum of a whole pairing."""

from cupdraw.walks import reached


def set_of_all(count):
    """The set of the players 0 to count - 1, as a number."""
    return (1 << count) - 1


def members_of(players):
    """The players in a set, rising, as a new list."""
    return [player for player in range(players.bit_length()) if players & (1 << player) != 0]


def steps_from(players, prices):
    """The ways to take the least player out of a set with another one: tuples (pair, set that is left), rising."""
    members = members_of(players)
    # Of the empty set members[0] isn't asked, as there are no other ones to go through.
    pairs = [(members[0], other) for other in members[1:]]
    return [(pair, players - (1 << pair[0]) - (1 << pair[1])) for pair in pairs if pair in prices]


def sets_with_rows(count, prices):
    """The sets that have a row in the table, rising, so that each stands behind all those that its steps leave."""
    return reached(set_of_all(count), lambda players: [rest for pair, rest in steps_from(players, prices)])


def added(one, other):
    """The three sums of two threes of numbers."""
    return (one[0] + other[0], one[1] + other[1], one[2] + other[2])


def sum_by(step, prices, rows):
    """The least sum of a whole pairing that begins with a step; None where there is none."""
    row = rows[step[1]]
    return None if row is None else added(prices[step[0]], row)


def row_of(players, prices, rows):
    """The row of a set, out of the rows of the sets that its steps leave."""
    if players == 0:
        return (0, 0, 0)
    sums = [sum_by(step, prices, rows) for step in steps_from(players, prices)]
    return min([found for found in sums if found is not None], default=None)


def sums_of(count, prices):
    """The table of sums for the players 0 to count - 1, as a new dict: sets to least sums, or to None."""
    rows = {}
    for players in sets_with_rows(count, prices):
        rows[players] = row_of(players, prices, rows)
    return rows

"""Whole pairings by prices, and the cheapest of them."""

from cupdraw.sums import set_of_all, steps_from, sum_by, sums_of


def best_step(players, prices, rows):
    """The first step with which a cheapest pairing begins, of a set that has a whole pairing and isn't empty."""
    steps = [step for step in steps_from(players, prices) if sum_by(step, prices, rows) == rows[players]]
    return steps[0]


def cheapest(count, prices):
    """Of all whole pairings of the players 0 to count - 1 with the least sum the first; None where there is none."""
    rows = sums_of(count, prices)
    players = set_of_all(count)
    if rows[players] is None:
        return None
    pairs = []
    while players > 0:
        # A rising pairing begins with the pair of the least player, so the first steps make the first pairing.
        step = best_step(players, prices, rows)
        pairs.append(step[0])
        players = step[1]
    return pairs

"""Slots: where each player begins in a tree, so that neighbours meet first and the least numbers meet last."""

from cupdraw.sizes import checked_size

LEAST_PLAYERS = 1
MOST_PLAYERS = 16


def doubled(numbers):
    """The numbers, each followed by a new one, so that every two neighbours have the same sum."""
    wider = []
    for number in numbers:
        wider.extend([number, 2 * len(numbers) - 1 - number])
    return wider


def slots_of(n):
    """The slots for n players, a list of players and None; what is no number of players is refused with NoSize."""
    checked_size(n, LEAST_PLAYERS, MOST_PLAYERS)
    numbers = [0]
    while len(numbers) < n:
        numbers = doubled(numbers)
    return [number if number < n else None for number in numbers]

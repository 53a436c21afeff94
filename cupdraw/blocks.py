"""Blocks: a greatest pairing of allowed pairs, and the few and the heaps that show why there is no greater one."""

from cupdraw.pairings import cheapest
from cupdraw.plans import every_two
from cupdraw.walks import reached


def prices_by(count, allowed):
    """Prices for every two of the players 0 to count - 1: nothing for an allowed pair, 1 for another one."""
    prices = {}
    for pair in every_two(count):
        prices[pair] = (0 if pair in allowed else 1, 0, 0)
    return prices


def greatest(count, allowed):
    """A greatest pairing of allowed pairs, rising, as a new list; the order of the allowed pairs changes nothing."""
    # A pairing becomes a whole one when those whom it leaves out are paired, too, in whatever way; so the cheapest
    # whole one has as many allowed pairs as can be. With an odd count, one more, whom nobody may meet, makes it even.
    even = count + count % 2
    return [pair for pair in cheapest(even, prices_by(even, allowed)) if pair in allowed]


def without(player, allowed):
    """The allowed pairs in which a player isn't, as a new list."""
    return [pair for pair in allowed if player not in pair]


def left_players(count, allowed):
    """The players that are in no pair of some greatest pairing, rising."""
    most = len(greatest(count, allowed))
    return [player for player in range(count) if len(greatest(count, without(player, allowed))) == most]


def allowed_with(player, group, allowed):
    """Those of a group with whom a player has an allowed pair, in the order of the group."""
    return [other for other in group if (min(player, other), max(player, other)) in allowed]


def heaps_of(left, allowed):
    """The left players by heaps, each rising, by their least players."""
    heaps = []
    for player in left:
        heap = reached(player, lambda one: allowed_with(one, left, allowed))
        # A heap is found from each of its players, but told once.
        if player == heap[0]:
            heaps.append(heap)
    return heaps


def block_of(count, allowed):
    """The block: a tuple of the few, rising, and of the heaps."""
    left = left_players(count, allowed)
    others = [player for player in range(count) if player not in left]
    few = [player for player in others if len(allowed_with(player, left, allowed)) > 0]
    return (few, heaps_of(left, allowed))

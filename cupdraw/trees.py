"""Trees: neighbours meet, then the winners of these, until one is left who hasn't lost."""

from cupdraw.errors import NotDue
from cupdraw.slots import slots_of
from cupdraw.wholes import is_whole


def neighbours(sides):
    """Each two neighbouring sides, as tuples."""
    return [(sides[place], sides[place + 1]) for place in range(0, len(sides), 2)]


def contests_between(sides):
    """The pairs of neighbouring sides of which each has just one player left."""
    # Each contest within a side leaves one fewer, so just one is left when all of them are told.
    return [(one[0], other[0]) for one, other in neighbours(sides) if len(one) == 1 and len(other) == 1]


def joined(sides):
    """The sides of the next round: each two neighbouring ones as one."""
    return [one + other for one, other in neighbours(sides)]


class Tree:
    """A tree of n players in their slots; what is no number of players for it is refused with NoSize."""

    def __init__(self, n):
        self.slots = slots_of(n)
        self.winners = {}

    def is_left(self, player):
        """Whether the one in a slot is somebody, and hasn't lost."""
        return player is not None and player not in self.winners

    def due(self):
        """The pairs that are due, in the order of the slots in which their first ones began, as a new list."""
        sides = [[player] if self.is_left(player) else [] for player in self.slots]
        pairs = []
        while len(sides) > 1:
            pairs.extend(contests_between(sides))
            sides = joined(sides)
        return sorted(pairs, key=lambda pair: self.slots.index(pair[0]))

    def is_due(self, one, other):
        """Whether a contest of two things of any kind is due."""
        # A truth equals a number, but is no player.
        if not is_whole(one) or not is_whole(other):
            return False
        pairs = self.due()
        return (one, other) in pairs or (other, one) in pairs

    def told(self, winner, loser):
        """Takes in who won a contest and who lost it; what isn't due is refused with NotDue."""
        if not self.is_due(winner, loser):
            raise NotDue("these two don't meet now")
        self.winners[loser] = winner

    def left(self):
        """Those who haven't lost, rising, as a new list."""
        return sorted([player for player in self.slots if self.is_left(player)])

    def beaten_by(self, player):
        """Who won against a player, or None."""
        return self.winners.get(player)

    def champion(self):
        """The one who hasn't lost when all contests are told; None as long as one is lacking."""
        players = self.left()
        return players[0] if len(players) == 1 else None

"""The refusals of the program, a class for each of them."""


class CupError(ValueError):
    """Any refusal."""


class NoGame(CupError):
    """What should be a game is none."""


class NoRule(CupError):
    """What should be a rule is none."""


class NoSize(CupError):
    """There are too few or too many."""


class NotDue(CupError):
    """What is told isn't due."""


class NoPairing(CupError):
    """There is no whole pairing: the few can't serve all the heaps."""

    def __init__(self, few, heaps):
        CupError.__init__(self, "there is no whole pairing")
        self.few = list(few)
        self.heaps = [list(heap) for heap in heaps]


class Uneven(CupError):
    """A draw isn't worth half of a win and a loss together."""


class NoNumber(CupError):
    """What should be a number is none, or nothing has that number."""


class NoText(CupError):
    """What should be a text that writes something writes nothing so."""


class NoRow(CupError):
    """What should be a row for the desk is none."""


class NoName(CupError):
    """What should be a name is none, or nobody's."""

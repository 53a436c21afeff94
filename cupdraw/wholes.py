"""Whole numbers: ints that are no truths."""


def is_whole(thing):
    """Whether a thing of any kind is a whole number."""
    # Python counts True and False among the ints, and a truth is no number here.
    return isinstance(thing, int) and not isinstance(thing, bool)


def is_between(thing, least, most):
    """Whether a thing of any kind is a whole number from least to most."""
    return is_whole(thing) and least <= thing <= most

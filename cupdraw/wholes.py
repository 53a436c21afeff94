"""Whole numbers: ints that are no truths, and how they are written."""

FIGURES = "0123456789"


def is_whole(thing):
    """Whether a thing of any kind is a whole number."""
    # Python counts True and False among the ints, and a truth is no number here.
    return isinstance(thing, int) and not isinstance(thing, bool)


def is_between(thing, least, most):
    """Whether a thing of any kind is a whole number from least to most."""
    return is_whole(thing) and least <= thing <= most


def are_figures(text):
    """Whether a text is one figure or more, and nothing else."""
    return text != "" and all([sign in FIGURES for sign in text])


def read_whole(text):
    """The whole number that a text writes; None where it writes none."""
    figures = text[1:] if text.startswith("-") else text
    if not are_figures(figures):
        return None
    if figures.startswith("0") and text != "0":
        return None
    # Reckoned here, as Python's own int gives up on texts of some thousand figures.
    number = 0
    for sign in figures:
        number = number * 10 + FIGURES.index(sign)
    return -number if text.startswith("-") else number

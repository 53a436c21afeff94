"""Sizes: how many players there are, or how often something is done, within bounds."""

from cupdraw.errors import NoSize
from cupdraw.wholes import is_between


def checked_size(thing, least, most):
    """The size that a thing of any kind is; what is no whole number from least to most is refused with NoSize."""
    if not is_between(thing, least, most):
        raise NoSize(f"a whole number from {least} to {most} is asked")
    return thing

"""Numbers that are handed in: whether they are within their bounds."""

from waitedmeets.errors import NoNumber
from waitedmeets.worths import is_whole


def look_at_number(thing, least, most):
    """NoNumber of anything that is no whole number from least to most."""
    if not is_whole(thing) or not least <= thing <= most:
        raise NoNumber(f"no whole number from {least} to {most}")

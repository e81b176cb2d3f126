"""Shares as texts."""

from unitshares.errors import BadText, NotRising
from unitshares.fractions import rises


def shown(shares):
    """The shares as a text."""
    if len(shares) == 0:
        return "0"
    return " + ".join([f"1/{share}" for share in shares])


def read(text):
    """The shares that the text writes, which must rise."""
    if text == "0":
        return []
    # All shares are read before it is asked whether they rise: a text with
    # both faults is refused for its form.
    shares = [read_share(piece) for piece in text.split(" + ")]
    if not rises(shares):
        raise NotRising("the shares of a text rise, none twice")
    return shares


def read_share(piece):
    """The number of the one share that the piece writes."""
    figures = piece[2:]
    if not piece.startswith("1/") or not is_number(figures):
        raise BadText("shares are written like 1/2 + 1/3, no shares as 0")
    return int(figures)


def is_number(figures):
    """Whether these are 1 to 400 figures and nothing else, without a nought ahead."""
    if len(figures) == 0 or len(figures) > 400 or figures[0] == "0":
        return False
    return all([sign in "0123456789" for sign in figures])

"""Shares: fractions in lowest terms, of numbers of any size."""

from math import gcd, lcm

from elderdraw.errors import NoShare
from elderdraw.kinds import is_whole

_FIGURES = 60
_PIECE = 10 ** 60


class Share:
    """A fraction: top over bottom, in lowest terms, bottom above 0."""

    def __init__(self, top, bottom=1):
        if not is_whole(top) or not is_whole(bottom) or bottom == 0:
            raise NoShare("a share is made of two whole numbers, the bottom not 0")
        common = gcd(top, bottom)
        if bottom < 0:
            common = -common
        self.top = top // common
        self.bottom = bottom // common

    def __eq__(self, other):
        return isinstance(other, Share) and self.top == other.top and self.bottom == other.bottom

    def __str__(self):
        if self.bottom == 1:
            return f"{_figures(self.top)}"
        return f"{_figures(self.top)}/{_figures(self.bottom)}"


def _figures(number):
    """Tell a whole number of any size by figures."""
    # Python's own str refuses numbers of more than some thousand figures, and sums come to such.
    rest = abs(number)
    pieces = []
    while rest >= _PIECE:
        pieces.append(str(rest % _PIECE).zfill(_FIGURES))
        rest //= _PIECE
    pieces.append(str(rest))
    sign = "-" if number < 0 else ""
    return sign + "".join(pieces[::-1])


def plus(one, other):
    """Tell the sum of two shares."""
    return Share(one.top * other.bottom + other.top * one.bottom, one.bottom * other.bottom)


def minus(one, other):
    """Tell one share less another one."""
    return Share(one.top * other.bottom - other.top * one.bottom, one.bottom * other.bottom)


def times(one, other):
    """Tell the product of two shares."""
    return Share(one.top * other.top, one.bottom * other.bottom)


def over(one, other):
    """Tell one share divided by another one; by the share 0: NoShare."""
    if other.top == 0:
        raise NoShare("nothing is divided by the share 0")
    return Share(one.top * other.bottom, one.bottom * other.top)


def less(one, other):
    """Tell whether one share is less than another one."""
    return one.top * other.bottom < other.top * one.bottom


def on_one_bottom(shares):
    """Tell a tuple of the tops that the shares of a list have on one bottom, a list, and this bottom."""
    bottom = 1
    for share in shares:
        bottom = lcm(bottom, share.bottom)
    tops = [share.top * (bottom // share.bottom) for share in shares]
    return tops, bottom


def sum_of(shares):
    """Tell the sum of a list of shares, Share(0) of none."""
    # Lowest terms are looked for once, not at each share: they take long for large numbers.
    tops, bottom = on_one_bottom(shares)
    return Share(sum(tops), bottom)

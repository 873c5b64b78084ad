"""Orders of places, which signs keep them, and draws that look at the two ends alone."""

from elderdraw.errors import NoEnds, NoOrder, NotKept
from elderdraw.kinds import is_pair_of, is_whole_within
from elderdraw.signs import check_signs

_MOST_PLACES = 32


class Order:
    """An order of so many places: x is below y where a row of pairs leads from x to y."""

    def __init__(self, many, pairs):
        if not is_whole_within(many, 1, _MOST_PLACES) or not _are_pairs(pairs, many):
            raise NoOrder("an order is made of 1 to 32 places and pairs of unlike ones")
        below = _below(many, pairs)
        if any([below[x][x] for x in range(many)]):
            raise NoOrder("a place is below itself")
        self.many = many
        self.pairs = list(pairs)
        self._below = below

    def at_most(self, x, y):
        """Tell whether place x is place y or below it."""
        return x == y or self._below[x][y]

    def least(self):
        """Tell the place that is at most each place, None where there is none."""
        for x in range(self.many):
            if all([self.at_most(x, y) for y in range(self.many)]):
                return x
        return None

    def greatest(self):
        """Tell the place that each place is at most, None where there is none."""
        for y in range(self.many):
            if all([self.at_most(x, y) for x in range(self.many)]):
                return y
        return None

    def __len__(self):
        return len(self._below)


def _are_pairs(thing, many):
    """Tell of anything whether it is a list of pairs of so many places."""
    return isinstance(thing, list) and all([_is_pair(pair, many) for pair in thing])


def _is_pair(thing, many):
    """Tell of anything whether it is a tuple of two unlike ones of so many places."""
    return is_pair_of(thing, many) and thing[0] != thing[1]


def _below(many, pairs):
    """Tell of each place a list that tells of each place whether a row of pairs leads there."""
    below = [[False] * many for _ in range(many)]
    for x, y in pairs:
        below[x][y] = True
    # Rows of pairs may go through the places up to middle; those are joined at it.
    for middle in range(many):
        for x in range(many):
            if below[x][middle]:
                below[x] = [one or other for one, other in zip(below[x], below[middle])]
    return below


def not_kept(turns, order):
    """Tell the least (sign, x, y) such that x is below y and the sign doesn't keep that, None where all are kept."""
    if turns.many != len(order):
        raise NoOrder("the order has another number of places than the turns")
    places = range(turns.many)
    pairs = [(x, y) for x in places for y in places if x != y and order.at_most(x, y)]
    for sign, leads in enumerate(turns.maps):
        for x, y in pairs:
            if not order.at_most(leads[x], leads[y]):
                return sign, x, y
    return None


def drawn_between(turns, order, signs):
    """Tell what drawn tells, looking at the least and the greatest place alone, of turns that keep the order."""
    kept = not_kept(turns, order)
    if kept is not None:
        raise NotKept(kept)
    least = order.least()
    greatest = order.greatest()
    if least is None or greatest is None:
        raise NoEnds("the order has no least or no greatest place")
    check_signs(turns, signs)
    k = _fewest_that_meet(turns, least, greatest, signs)
    if k > len(signs):
        return None
    return _led(turns, least, signs[:k]), k


def _fewest_that_meet(turns, least, greatest, signs):
    """Tell the least k such that the first k signs lead both places to one; one more than all where none do."""
    # All other places stay between these two. So what has met has met for ever, and k is found by halving.
    fewest = 0
    most = len(signs) + 1
    while fewest < most:
        middle = (fewest + most) // 2
        newest = signs[:middle]
        if _led(turns, least, newest) == _led(turns, greatest, newest):
            most = middle
        else:
            fewest = middle + 1
    return fewest


def _led(turns, place, signs):
    """Tell where signs, the newest first, lead a place."""
    for sign in signs[::-1]:
        place = turns.maps[sign][place]
    return place

"""Webs: spots that are up or down, tied to one another, and moved one at a time."""

from elderdraw.errors import NoWeb
from elderdraw.kinds import is_pair_of, is_whole_within
from elderdraw.orders import Order
from elderdraw.turns import Turns

_MOST_SPOTS = 5
_MOST_WHOLE = 40


class Web:
    """A web: so many spots, ties between them, and levels, which tell of the whole how many signs put a spot up."""

    def __init__(self, spots, ties, whole, levels):
        if not is_whole_within(spots, 1, _MOST_SPOTS):
            raise NoWeb("spots")
        if not _are_ties(ties, spots):
            raise NoWeb("ties")
        if not is_whole_within(whole, 1, _MOST_WHOLE):
            raise NoWeb("whole")
        if not _are_levels(levels, spots, whole):
            raise NoWeb("levels")
        self.spots = spots
        self.ties = list(ties)
        self.whole = whole
        self.levels = list(levels)


def _are_ties(thing, spots):
    """Tell of anything whether it is a list of unlike ties of so many spots."""
    if not isinstance(thing, list) or not all([_is_tie(tie, spots) for tie in thing]):
        return False
    return len(set(thing)) == len(thing)


def _is_tie(thing, spots):
    """Tell of anything whether it is a tuple of two of so many spots, one below the other."""
    return is_pair_of(thing, spots) and thing[0] < thing[1]


def _are_levels(thing, spots, whole):
    """Tell of anything whether it is a list of a number up to the whole for each of so many spots."""
    if not isinstance(thing, list) or len(thing) != spots:
        return False
    return all([is_whole_within(level, 0, whole) for level in thing])


def turns_of(web):
    """Tell the turns of a web: a place for each way in which its spots can stand, the whole of signs for each spot."""
    return Turns(_places(web), [_leads(web, sign) for sign in range(web.spots * web.whole)])


def _places(web):
    """Tell in how many ways the spots of a web can stand."""
    return 1 << web.spots


def _leads(web, sign):
    """Tell the map of a sign: it moves one spot alone."""
    spot = sign // web.whole
    tied = _spots_tied(web, spot)
    return tuple([_moved(web, sign, spot, tied, place) for place in range(_places(web))])


def _spots_tied(web, spot):
    """Tell the place at which just the spots that are tied to a spot are up."""
    tied = 0
    for one, other in web.ties:
        if one == spot:
            tied += 1 << other
        if other == spot:
            tied += 1 << one
    return tied


def _moved(web, sign, spot, tied, place):
    """Tell where a sign that moves a spot leads from a place."""
    up = 1 << spot
    if sign % web.whole < web.levels[_many_up(tied & place)]:
        return place | up
    return (place | up) - up


def _many_up(place):
    """Tell how many spots are up at a place."""
    many = 0
    while place > 0:
        many += place & 1
        place = place >> 1
    return many


def order_of(web):
    """Tell the order of a web's places: one is below another where further spots are up at that."""
    ups = [1 << spot for spot in range(web.spots)]
    places = _places(web)
    return Order(places, [(x, x | up) for x in range(places) for up in ups if (x & up) == 0])

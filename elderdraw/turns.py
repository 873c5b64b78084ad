"""Turns: signs that tell from each place where to go, and the walks that they make."""

from elderdraw.errors import NoTurns, TooMany
from elderdraw.kinds import is_whole_within
from elderdraw.walks import Walk

_MOST_PLACES = 32
_MOST_SIGNS = 200


class Turns:
    """Turns: so many places, and maps, which tell of each sign where it leads from each place."""

    def __init__(self, many, maps):
        if not is_whole_within(many, 1, _MOST_PLACES):
            raise NoTurns("many")
        if not _are_maps(maps, many):
            raise NoTurns("maps")
        self.many = many
        self.maps = list(maps)

    def __eq__(self, other):
        return isinstance(other, Turns) and self.many == other.many and self.maps == other.maps

    def __len__(self):
        return len(self.maps)


def _are_maps(thing, many):
    """Tell of anything whether it can be the maps of turns of so many places."""
    if not isinstance(thing, list) or not 1 <= len(thing) <= _MOST_SIGNS:
        return False
    return all([_is_map(leads, many) for leads in thing])


def _is_map(thing, many):
    """Tell of anything whether it is a tuple that tells of each of so many places a place."""
    if not isinstance(thing, tuple) or len(thing) != many:
        return False
    return all([is_whole_within(place, 0, many - 1) for place in thing])


def walk_of(turns):
    """Tell the walk that goes from place to place by as many of the signs as lead there."""
    rows = [[0] * turns.many for _ in range(turns.many)]
    for leads in turns.maps:
        for x, y in enumerate(leads):
            rows[x][y] += 1
    return Walk(len(turns), rows)


def go_as(turns, walk):
    """Tell whether turns have the places of a walk, and go from each to each with its share."""
    own = walk_of(turns)
    # Shares are compared on one bottom, the two wholes' product; unlike places make unlike rows.
    return _times_over(own.rows, walk.whole) == _times_over(walk.rows, own.whole)


def _times_over(rows, factor):
    """Tell rows of numbers, each number so many times over."""
    return [[number * factor for number in row] for row in rows]


def plain_turns(walk):
    """Tell the plain turns of a walk, a sign for each number below its whole; of more than 200: TooMany."""
    if walk.whole > _MOST_SIGNS:
        raise TooMany("the whole of the walk is more than turns have signs")
    columns = [_by_signs(row) for row in walk.rows]
    maps = [tuple([column[sign] for column in columns]) for sign in range(walk.whole)]
    return Turns(len(walk), maps)


def _by_signs(row):
    """Tell a list of the places to which the signs lead, sign by sign, from the place of a row."""
    places = []
    for y, number in enumerate(row):
        places.extend([y] * number)
    return places

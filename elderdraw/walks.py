"""Walks from place to place, the sets that they never leave, and how they rest."""

from elderdraw.equations import solved
from elderdraw.errors import NotOne, NoWalk
from elderdraw.kinds import is_whole, is_whole_within
from elderdraw.shares import Share, on_one_bottom

_MOST_WHOLE = 10 ** 6
_MOST_PLACES = 32


class Walk:
    """A walk: rows tell, of each place, how many of the whole go to each place at a step."""

    def __init__(self, whole, rows):
        if not is_whole_within(whole, 1, _MOST_WHOLE):
            raise NoWalk("whole")
        if not _are_rows(rows, whole):
            raise NoWalk("rows")
        self.whole = whole
        self.rows = [list(row) for row in rows]

    def share(self, x, y):
        """Tell the share of place x that goes to place y at a step."""
        return Share(self.rows[x][y], self.whole)

    def __len__(self):
        return len(self.rows)


def _are_rows(thing, whole):
    """Tell of anything whether it can be the rows of a walk with this whole."""
    if not isinstance(thing, list) or not 1 <= len(thing) <= _MOST_PLACES:
        return False
    return all([_is_row(row, len(thing), whole) for row in thing])


def _is_row(thing, many, whole):
    """Tell of anything whether it is a list of so many numbers from 0 on that come to the whole."""
    if not isinstance(thing, list) or len(thing) != many:
        return False
    if not all([is_whole(number) and number >= 0 for number in thing]):
        return False
    return sum(thing) == whole


def _reached(walk, start):
    """Tell a tuple, sorted, of the place start and all places to which a walk comes from it."""
    places = [start]
    waiting = [start]
    while waiting:
        row = walk.rows[waiting.pop()]
        new = [y for y in range(len(walk)) if row[y] > 0 and y not in places]
        places.extend(new)
        waiting.extend(new)
    return tuple(sorted(places))


def closed_sets(walk):
    """Tell the closed sets of a walk, a list of sorted tuples, by their first places."""
    reached = [_reached(walk, x) for x in range(len(walk))]
    sets = []
    for x, places in enumerate(reached):
        # A set is met with at each of its places: it is taken at its first one alone.
        if places[0] == x and all([reached[y] == places for y in places]):
            sets.append(places)
    return sets


def resting(walk):
    """Tell the resting row of a walk with one closed set; with several: NotOne."""
    sets = closed_sets(walk)
    if len(sets) != 1:
        raise NotOne(sets)
    places = sets[0]
    weights = _weights(walk, places)
    total = sum(weights)
    shares = [Share(0) for _ in range(len(walk))]
    for place, weight in zip(places, weights):
        shares[place] = Share(weight, total)
    return shares


def _weights(walk, places):
    """Tell whole numbers that are to one another as the resting shares of a closed set's places."""
    others = places[:-1]
    last = places[-1]
    grid = [_balance(walk, others, last, y) for y in others]
    rights, divisor = solved(grid)
    return [right[0] for right in rights] + [divisor]


def _balance(walk, others, last, y):
    """Tell the equation that as much leaves place y as comes to it, where the last place weighs 1."""
    row = [-walk.rows[x][y] for x in others]
    row[others.index(y)] += walk.whole
    return row + [walk.rows[last][y]]


def is_resting(walk, thing):
    """Tell of anything whether it is a resting row of a walk."""
    if not isinstance(thing, list) or len(thing) != len(walk):
        return False
    if not all([isinstance(share, Share) for share in thing]):
        return False
    tops, bottom = on_one_bottom(thing)
    if sum(tops) != bottom or min(tops) < 0:
        return False
    return all([_arriving(walk, tops, y) == walk.whole * tops[y] for y in range(len(walk))])


def _arriving(walk, tops, y):
    """Tell how much comes to place y at a step, the whole times over."""
    return sum([top * row[y] for top, row in zip(tops, walk.rows)])

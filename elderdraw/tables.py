"""Tables of averages: with which shares a draw ends, and how many signs it looks at."""

from elderdraw.equations import averages
from elderdraw.errors import TooMany
from elderdraw.maps import one_then_other, place_of_all
from elderdraw.shares import Share, on_one_bottom
from elderdraw.turns import walk_of
from elderdraw.walks import resting
from elderdraw.words import check_meets, maps_of

_MOST_WAITS = 40


def draw_table(turns):
    """Tell the shares with which the draw ends behind each map, a list of tuples (map, shares)."""
    found = maps_of(turns)
    check_meets(turns)
    # Where some word meets, the walk has one closed set, so it rests in one way alone.
    tops, bottom = on_one_bottom(resting(walk_of(turns)))
    return [(leads, _gathered(leads, tops, bottom)) for leads in found]


def _gathered(leads, tops, bottom):
    """Tell the share of each place: the sum of those, told by tops on one bottom, of all that the map leads there."""
    numbers = [0] * len(leads)
    for place, top in zip(leads, tops):
        numbers[place] += top
    return [Share(number, bottom) for number in numbers]


def draw_shares(turns):
    """Tell the shares with which the draw ends, a list: those of the map of no signs."""
    return draw_table(turns)[0][1]


def wait_table(turns):
    """Tell how many signs are looked at on the average behind each map, a list of tuples (map, share)."""
    found = maps_of(turns)
    check_meets(turns)
    if len(found) > _MOST_WAITS:
        raise TooMany("there are more maps than waits are told of")
    steps = {}
    known = {}
    for leads in found:
        steps[leads] = [one_then_other(sign, leads) for sign in turns.maps]
        if place_of_all(leads) is not None:
            known[leads] = [0]
    waits = averages(steps, known, [1])
    return [(leads, waits[leads][0]) for leads in found]

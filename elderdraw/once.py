"""Reading signs once, block by block, and telling the place ahead of a block that meets."""

from elderdraw.counts import map_counts
from elderdraw.errors import NeverMeets
from elderdraw.maps import place_of_all
from elderdraw.signs import check_signs
from elderdraw.turns import walk_of
from elderdraw.walks import resting
from elderdraw.words import map_of


def blocks(turns, long):
    """Tell how many blocks of so many signs lead all places to each, and how many others lead each place to each."""
    met = [0] * turns.many
    led = [[0] * turns.many for _ in range(turns.many)]
    for leads, number in map_counts(turns, long):
        place = place_of_all(leads)
        if place is not None:
            met[place] += number
        else:
            for x, y in enumerate(leads):
                led[x][y] += number
    return met, led


def read_once(turns, long, word):
    """Tell (place, k): block k is the second that meets, ahead of it one stood at the place; None if no two meet."""
    check_signs(turns, word)
    stood = None
    for k in range(len(word) // long):
        leads = map_of(turns, word[k * long:(k + 1) * long])
        place = place_of_all(leads)
        if stood is None:
            stood = place
        elif place is None:
            stood = leads[stood]
        else:
            return stood, k + 1
    return None


def once_shares(turns, long):
    """Tell the shares with which reading once ends, a list."""
    met, _ = blocks(turns, long)
    if sum(met) == 0:
        raise NeverMeets(None)
    # The resting row comes to itself by any number of signs, so by blocks, too; and where a block
    # meets, no other row does.
    return resting(walk_of(turns))

"""What goes wrong: going on to the first meeting, or drawing the signs anew until they meet."""

from elderdraw.counts import counts
from elderdraw.equations import averages
from elderdraw.errors import NeverMeets
from elderdraw.maps import one_then_other, place_of_all, staying
from elderdraw.shares import Share
from elderdraw.signs import check_signs
from elderdraw.words import check_meets, places_led, sets_of

_MOST_SETS = 40


def met_forward(turns, word):
    """Tell (place, k): the first k signs of a word are the fewest that meet, at the place; None if none do."""
    check_signs(turns, word)
    leads = staying(turns.many)
    k = 0
    while k < len(word) and place_of_all(leads) is None:
        leads = one_then_other(leads, turns.maps[word[k]])
        k += 1
    place = place_of_all(leads)
    if place is None:
        return None
    return place, k


def forward_table(turns):
    """Tell the shares with which the first meeting comes at places, a list of tuples (places, shares) for each set."""
    check_meets(turns)
    steps = {}
    known = {}
    for places in sets_of(turns, _MOST_SETS):
        steps[places] = [places_led(places, leads) for leads in turns.maps]
        if len(places) == 1:
            known[places] = [int(place == places[0]) for place in range(turns.many)]
    shares = averages(steps, known, [0] * turns.many)
    return list(shares.items())


def forward_shares(turns):
    """Tell the shares with which the first meeting comes at places, a list: those of the set of all places."""
    return forward_table(turns)[0][1]


def tried_shares(turns, many):
    """Tell the shares with which places are drawn by rows of so many signs, each drawn anew until one meets, a list."""
    numbers, _ = counts(turns, many)
    met = sum(numbers)
    if met == 0:
        raise NeverMeets(None)
    return [Share(number, met) for number in numbers]

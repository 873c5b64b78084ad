"""Counts: of all rows of so many signs, how many are drawn with each place."""

from elderdraw.maps import one_then_other, place_of_all
from elderdraw.words import maps_of


def counts(turns, many):
    """Tell how many rows of so many signs are drawn with each place, a list, and the number of those with none."""
    numbers = [0] * turns.many
    unmet = 0
    # What has met has met for ever: a row is drawn with the place to which the map of all its signs leads.
    for leads, number in map_counts(turns, many):
        place = place_of_all(leads)
        if place is None:
            unmet += number
        else:
            numbers[place] += number
    return numbers, unmet


def map_counts(turns, many):
    """Tell how many words of so many signs have each map that some have, a sorted list of tuples (map, number)."""
    found = maps_of(turns)
    behind = _signs_behind(turns, found)
    # The first map is that of the word without signs.
    numbers = [1] + [0] * (len(found) - 1)
    for _ in range(many):
        numbers = _one_sign_longer(numbers, behind)
    return sorted([(leads, number) for leads, number in zip(found, numbers) if number > 0])


def _signs_behind(turns, found):
    """Tell of each map found a list of where each sign behind its word leads, by the numbers that the maps have."""
    number_of = {}
    for at, leads in enumerate(found):
        number_of[leads] = at
    return [[number_of[one_then_other(leads, sign)] for sign in turns.maps] for leads in found]


def _one_sign_longer(numbers, behind):
    """Tell how many words have each map, with one sign more than those of which the numbers are told."""
    longer = [0] * len(numbers)
    for number, ahead in zip(numbers, behind):
        for at in ahead:
            longer[at] += number
    return longer

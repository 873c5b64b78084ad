"""Words: signs in the order in which they come, where they lead, and where they bring all places together."""

from elderdraw.errors import NeverMeets, TooMany
from elderdraw.maps import one_then_other, staying
from elderdraw.signs import check_signs

_MOST_FOUND = 300


def map_of(turns, word):
    """Tell the map of a word, which tells of each place where the word leads it."""
    check_signs(turns, word)
    leads = staying(turns.many)
    for sign in word:
        leads = one_then_other(leads, turns.maps[sign])
    return leads


def maps_of(turns):
    """Tell the maps of all words, a list, as they are found; of more than 300: TooMany."""
    return list(_first_words(turns, one_then_other, _MOST_FOUND))


def sets_of(turns, most):
    """Tell the sets of places that words lead all places to, with the first word that leads to each, a dict.

    The sets are sorted tuples, as they are found; more of them than most are TooMany.
    """
    return _first_words(turns, places_led, most)


def _first_words(turns, lead, most):
    """Tell all to which words lead all places, as it is found, with the first word that leads there, a dict.

    lead tells of something and the map of a sign where the sign leads it; more things than most are TooMany.
    """
    # All places, each at its own number, are the map of no signs and a sorted tuple of places as well.
    start = staying(turns.many)
    words = {start: []}
    waiting = [start]
    while waiting:
        thing = waiting.pop(0)
        for sign, leads in enumerate(turns.maps):
            new = lead(thing, leads)
            if new not in words:
                if len(words) == most:
                    raise TooMany("words lead to more than are gone through")
                words[new] = words[thing] + [sign]
                waiting.append(new)
    return words


def never_meet(turns):
    """Tell the pairs of places that no word leads to one place, a sorted list of tuples."""
    ahead = _pairs_ahead(turns)
    meet = {}
    waiting = [(place, place) for place in range(turns.many)]
    while waiting:
        pair = waiting.pop()
        new = [other for other in ahead.get(pair, []) if other not in meet]
        for other in new:
            meet[other] = True
        waiting.extend(new)
    return [pair for pair in _pairs(turns.many) if pair not in meet]


def check_meets(turns):
    """Refuse turns of which no word meets."""
    pairs = never_meet(turns)
    if pairs:
        raise NeverMeets(pairs[0])


def _pairs(many):
    """Tell all pairs (x, y) of so many places, x below y, a sorted list."""
    return [(x, y) for x in range(many) for y in range(x + 1, many)]


def _pairs_ahead(turns):
    """Tell of pairs, and of (x, x) for each place x, the pairs that one sign leads there, a dict of lists."""
    ahead = {}
    for x, y in _pairs(turns.many):
        for one, other in sorted({(leads[x], leads[y]) for leads in turns.maps}):
            ahead.setdefault((min(one, other), max(one, other)), []).append((x, y))
    return ahead


def meeting(turns):
    """Tell the shortest word that meets, the least of several, None where none does; of more than 300 sets: TooMany."""
    words = sets_of(turns, _MOST_FOUND)
    # Shorter words come first, and of one length the least: the first word that meets is the one wanted.
    for places, word in words.items():
        if len(places) == 1:
            return word
    return None


def places_led(places, leads):
    """Tell the places to which a map leads a sorted tuple of places, a sorted tuple."""
    return tuple(sorted({leads[place] for place in places}))

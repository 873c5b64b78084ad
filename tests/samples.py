"""Turns, words and things that are none, which several files of tests ask about."""

from itertools import product
from random import Random

from elderdraw.shares import Share
from elderdraw.turns import Turns

# Of each of these kinds nothing is a whole number, a list or a tuple of numbers.
OTHER_KINDS = [True, False, None, "", "1", "maps", b"1", {}, {0: 1}, {1}, object(), int, len, 1j, Share(1), range(2)]
EXAMPLE = Turns(2, [(0, 0), (1, 0)])


def knot():
    """A list that holds itself."""
    held = []
    held.append(held)
    return held


def staying(many):
    return tuple(range(many))


def all_turns(many, signs):
    """All turns of so many places and signs."""
    for maps in product(product(range(many), repeat=many), repeat=signs):
        yield Turns(many, list(maps))


def some_turns(seed, times, many, signs):
    chance = Random(seed)
    for _ in range(times):
        yield Turns(many, [tuple(chance.randrange(many) for _ in range(many)) for _ in range(signs)])


def words_of(signs, length):
    """All words of just so many signs, from the least on."""
    return [list(word) for word in product(range(signs), repeat=length)]


def led(turns, word, place):
    """Where a word leads a place, by the words of 3.1 and 4.1."""
    for sign in word:
        place = turns.maps[sign][place]
    return place


def map_by_places(turns, word):
    return tuple(led(turns, word, place) for place in range(turns.many))


def side_by_side(parts):
    """Turns of parts, lists of maps, that stand side by side: each sign moves its own part alone."""
    many = sum(len(part[0]) for part in parts)
    maps = []
    start = 0
    for part in parts:
        for leads in part:
            whole = list(range(many))
            whole[start:start + len(leads)] = [start + place for place in leads]
            maps.append(tuple(whole))
        start += len(part[0])
    return Turns(many, maps)


def with_sign(turns, leads):
    return Turns(turns.many, [*turns.maps, tuple(leads)])


def ring(many):
    """A map that leads round."""
    return tuple((place + 1) % many for place in range(many))


def down(many):
    """A map that leads one down, and from 0 to 0."""
    return tuple(max(place - 1, 0) for place in range(many))


def up(many):
    return tuple(min(place + 1, many - 1) for place in range(many))

"""Turns, words and things that are none, which several files of tests ask about."""

from fractions import Fraction
from itertools import chain, product
from random import Random

from elderdraw.shares import Share
from elderdraw.turns import Turns

# Of each of these kinds nothing is a whole number, a list or a tuple of numbers.
OTHER_KINDS = [True, False, None, "", "1", "maps", b"1", {}, {0: 1}, {1}, object(), int, len, 1j, Share(1), range(2)]
EXAMPLE = Turns(2, [(0, 0), (1, 0)])


def knot():
    """A list that holds itself."""
    held = []
    held.append(held)
    return held


def staying(many):
    return tuple(range(many))


def all_turns(many, signs):
    """All turns of so many places and signs."""
    for maps in product(product(range(many), repeat=many), repeat=signs):
        yield Turns(many, list(maps))


def some_turns(seed, times, many, signs):
    chance = Random(seed)
    for _ in range(times):
        yield Turns(many, [tuple(chance.randrange(many) for _ in range(many)) for _ in range(signs)])


def words_of(signs, length):
    """All words of just so many signs, from the least on."""
    return [list(word) for word in product(range(signs), repeat=length)]


def led(turns, word, place):
    """Where a word leads a place, by the words of 3.1 and 4.1."""
    for sign in word:
        place = turns.maps[sign][place]
    return place


def map_by_places(turns, word):
    return tuple(led(turns, word, place) for place in range(turns.many))


def found_by_words(turns, told):
    """What is told of the maps of all words, in the order of the words that first have it, the shorter ones first."""
    found = []
    length = 0
    while True:
        new = []
        for word in words_of(len(turns), length):
            thing = told(map_by_places(turns, word))
            if thing not in found and thing not in new:
                new.append(thing)
        if not new:
            return found
        found += new
        length += 1


def side_by_side(parts):
    """Turns of parts, lists of maps, that stand side by side: each sign moves its own part alone."""
    many = sum(len(part[0]) for part in parts)
    maps = []
    start = 0
    for part in parts:
        for leads in part:
            whole = list(range(many))
            whole[start:start + len(leads)] = [start + place for place in leads]
            maps.append(tuple(whole))
        start += len(part[0])
    return Turns(many, maps)


def with_sign(turns, leads):
    return Turns(turns.many, [*turns.maps, tuple(leads)])


def ring(many):
    """A map that leads round."""
    return tuple((place + 1) % many for place in range(many))


def down(many):
    """A map that leads one down, and from 0 to 0."""
    return tuple(max(place - 1, 0) for place in range(many))


def up(many):
    return tuple(min(place + 1, many - 1) for place in range(many))


def resets(many, places):
    """Maps that lead all of so many places to one, for each of some places."""
    return [(place,) * many for place in places]


def rings(lengths):
    """A map that leads round rings of such lengths, side by side."""
    starts = [sum(lengths[:at]) for at in range(len(lengths))]
    return tuple(start + step for start, length in zip(starts, lengths) for step in ring(length))


# Rings of 5, 7 and 8 have 280 maps; a sign that leads all places to one of a ring brings as many more as the ring has
# places. So these have just 300 maps and 301, and some words meet.
THREE_HUNDRED = Turns(20, [rings((5, 7, 8)), *resets(20, (0, 5, 12))])
ONE_MORE = Turns(21, [rings((5, 7, 8, 1)), *resets(21, (0, 5, 12, 20))])
# Likewise, but none meets: rings alone, and a ring of 7 beside one that has 43 maps.
NEVER_300 = Turns(32, [rings((3, 4, 25))])
NEVER_301 = side_by_side([[(1, 0, 3, 4, 2, 6, 7, 8, 9, 10, 11, 5, 5)], [ring(7)]])


def large_turns():
    """Turns of 32 places, 200 signs and 300 maps, of which some words meet."""
    round_about = rings((5, 7, 8)) + tuple(range(20, 32))
    maps = []
    leads = round_about
    while len(maps) < 190:
        maps.append(leads)
        leads = tuple(round_about[place] for place in leads)
    return Turns(32, maps + resets(32, (0, 5, 12)) + resets(32, (0, 0, 0, 1, 5, 12, 13)))


def fractions(shares):
    return [Fraction(share.top, share.bottom) for share in shares]


def unit(many, at):
    return [int(place == at) for place in range(many)]


def meets(leads):
    return len(set(leads)) == 1


def turns_that_meet():
    """Turns of few places and maps of which some words meet, by the words of 4.3."""
    some = chain(all_turns(2, 2), some_turns(91, 40, 3, 2), some_turns(92, 20, 3, 4), some_turns(93, 20, 4, 2))
    for turns in some:
        if any(meets(map_by_places(turns, word)) for length in range(6) for word in words_of(len(turns), length)):
            yield turns
    yield Turns(1, [(0,), (0,)])
    yield Turns(7, [down(7)])
    yield Turns(5, [up(5), down(5)])
    yield Turns(4, [ring(4), *resets(4, (1, 3))])

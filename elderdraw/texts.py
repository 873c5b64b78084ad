"""Texts of turns: how many places there are, and for each sign the places to which it leads."""

from elderdraw.errors import NoText
from elderdraw.turns import Turns

_MOST_PLACES = 32
_MOST_SIGNS = 200


def show(turns):
    """Tell the text of turns."""
    words = [str(turns.many)]
    for leads in turns.maps:
        words.append("/")
        words.extend([str(place) for place in leads])
    return " ".join(words)


def read(text):
    """Tell the turns of which a thing is the text; of all else: NoText."""
    if not isinstance(text, str):
        raise NoText(None)
    words = text.split(" ")
    # Words are compared with written numbers: so no other form is read, nor any number too long for Python's int.
    numbers = [str(number) for number in range(_MOST_PLACES + 1)]
    if words[0] not in numbers[1:]:
        raise NoText(0)
    many = int(words[0])
    _check_words(words, numbers[:many])
    starts = range(2, len(words), many + 1)
    return Turns(many, [tuple([int(word) for word in words[start:start + many]]) for start in starts])


def _check_words(words, places):
    """Refuse words that don't tell, behind the first one, "/" and as many places as there are for each sign."""
    wide = len(places) + 1
    for at in range(1, len(words)):
        wanted = places
        if at % wide == 1:
            wanted = ["/"]
        if words[at] not in wanted or at > _MOST_SIGNS * wide:
            raise NoText(at)
    if len(words) == 1 or len(words) % wide != 1:
        raise NoText(len(words))

"""Rows of words that a desk is told: which there are, and the numbers among their words."""

from elderdraw.errors import NoName, NoRow

_MOST_LETTERS = 8
_MOST_FIGURES = 9
# What stands behind the first word and the name.
_FORMS = {
    "show": (),
    "never": (),
    "meet": (),
    "rest": (),
    "shares": (),
    "forward": (),
    "tried": ("many",),
    "once": ("long",),
    "wait": (),
    "counts": ("many",),
    "draw": ("signs",),
    "double": ("signs",),
    "ahead": ("signs",),
    "read": ("long", "signs"),
    "elder": ("sign",),
    "stand": (),
    "anew": (),
}
_BOUNDS = {"many": (0, 60), "long": (1, 12)}


def read_row(row):
    """Tell the first word of a row, the name behind it, and a list of what is told behind that; of all else: NoRow."""
    if not isinstance(row, str):
        raise NoRow("a row is a text")
    words = row.split(" ")
    first = words[0]
    if first == "names" and len(words) == 1:
        return first, "", []
    if first == "turns" and len(words) >= 3:
        return first, words[1], [" ".join(words[2:])]
    if first not in _FORMS or len(words) != 2 + len(_FORMS[first]):
        raise NoRow("there is no row with this first word and so many words")
    return first, words[1], [_told(kind, word) for kind, word in zip(_FORMS[first], words[2:])]


def _told(kind, word):
    """Tell the number that a word is, or the list of numbers where it is signs."""
    if kind != "signs":
        return _number(word)
    if word == "-":
        return []
    return [_number(part) for part in word.split(",")]


def _number(word):
    """Tell the number that a word is, by figures without a nought ahead."""
    if not word.isascii() or not word.isdigit() or len(word) > _MOST_FIGURES or str(int(word)) != word:
        raise NoRow("a number has one to nine figures, without a nought ahead")
    return int(word)


def check_bounds(first, told):
    """Refuse numbers of a row beyond the bounds of what they tell."""
    for kind, thing in zip(_FORMS[first], told):
        if kind in _BOUNDS:
            least, most = _BOUNDS[kind]
            if thing < least or thing > most:
                raise NoRow("a number of the row is beyond its bounds")


def check_name(word):
    """Refuse a word that is no name."""
    if not word.isascii() or not word.isalpha() or not word.islower() or len(word) > _MOST_LETTERS:
        raise NoName(word)

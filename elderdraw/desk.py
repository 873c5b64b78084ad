"""A desk, which keeps turns by names, each with a Draw of its own, and answers rows of words."""

from elderdraw.counts import counts
from elderdraw.elder import Draw, drawn, drawn_doubled
from elderdraw.errors import NotThere
from elderdraw.once import once_shares, read_once
from elderdraw.rows import check_bounds, check_name, read_row
from elderdraw.tables import draw_shares, wait_table
from elderdraw.texts import read, show
from elderdraw.turns import walk_of
from elderdraw.walks import resting
from elderdraw.words import meeting, never_meet
from elderdraw.wrong import forward_shares, met_forward, tried_shares


def _spaced(things):
    """Tell a text of things with blanks between."""
    return " ".join([str(thing) for thing in things])


def _or_dash(text):
    """Tell a text, "-" where there is nothing in it."""
    if text == "":
        return "-"
    return text


def _found(thing):
    """Tell a place and a number that were found, as a text."""
    if thing is None:
        return "-"
    return _spaced(thing)


def _place(draw):
    """Tell the place of a draw as a text."""
    if draw.place() is None:
        return "-"
    return str(draw.place())


def _show(draw):
    return show(draw.turns)


def _never(draw):
    return _or_dash(", ".join([_spaced(pair) for pair in never_meet(draw.turns)]))


def _meet(draw):
    word = meeting(draw.turns)
    if word == []:
        return "now"
    return _found(word)


def _rest(draw):
    return _spaced(resting(walk_of(draw.turns)))


def _shares(draw):
    return _spaced(draw_shares(draw.turns))


def _forward(draw):
    return _spaced(forward_shares(draw.turns))


def _tried(draw, many):
    return _spaced(tried_shares(draw.turns, many))


def _once(draw, long):
    return _spaced(once_shares(draw.turns, long))


def _wait(draw):
    return str(wait_table(draw.turns)[0][1])


def _counts(draw, many):
    numbers, unmet = counts(draw.turns, many)
    return _spaced(numbers + [unmet])


def _draw(draw, signs):
    return _found(drawn(draw.turns, signs))


def _double(draw, signs):
    return _found(drawn_doubled(draw.turns, signs))


def _ahead(draw, signs):
    return _found(met_forward(draw.turns, signs))


def _read(draw, long, signs):
    return _found(read_once(draw.turns, long, signs))


def _elder(draw, sign):
    draw.elder(sign)
    return _place(draw)


def _stand(draw):
    return f"{_place(draw)} {draw.used()} {len(draw)}"


_ANSWERS = {
    "show": _show,
    "never": _never,
    "meet": _meet,
    "rest": _rest,
    "shares": _shares,
    "forward": _forward,
    "tried": _tried,
    "once": _once,
    "wait": _wait,
    "counts": _counts,
    "draw": _draw,
    "double": _double,
    "ahead": _ahead,
    "read": _read,
    "elder": _elder,
    "stand": _stand,
}


class Desk:
    """A desk: it is told rows, texts of words, and answers each by a text."""

    def __init__(self):
        self._draws = {}

    def say(self, row):
        """Answer a row."""
        first, name, told = read_row(row)
        if first == "names":
            return _or_dash(_spaced(sorted(self._draws)))
        if first == "turns":
            check_name(name)
            return self._begin(name, read(told[0]))
        if name not in self._draws:
            raise NotThere(name)
        check_bounds(first, told)
        draw = self._draws[name]
        if first == "anew":
            return self._begin(name, draw.turns)
        answer = _ANSWERS[first]
        return answer(draw, *told)

    def _begin(self, name, turns):
        """Keep turns by a name, with a Draw begun."""
        self._draws[name] = Draw(turns)
        return "ok"

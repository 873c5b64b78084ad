"""Looking back: the place that is drawn by ever elder signs."""

from elderdraw.maps import one_then_other, place_of_all, staying
from elderdraw.signs import check_signs
from elderdraw.words import map_of


class Draw:
    """A draw, told signs one by one, each elder than all ahead, until they bring all places to one."""

    def __init__(self, turns):
        self.turns = turns
        self._signs = []
        self._used = 0
        self._looked = staying(turns.many)

    def elder(self, sign):
        """Take a sign elder than all ahead; tell the place where the signs told meet, else None."""
        check_signs(self.turns, [sign])
        # What has met has met for ever: further signs are counted alone.
        if self.place() is None:
            self._looked = one_then_other(self.turns.maps[sign], self._looked)
            self._used += 1
        self._signs.append(sign)
        return self.place()

    def place(self):
        """Tell the place where the signs told meet, else None."""
        return place_of_all(self._looked)

    def used(self):
        """Tell how many signs were told up to the meeting, all as long as there is none."""
        return self._used

    def looked(self):
        """Tell the map of the signs used."""
        return self._looked

    def __len__(self):
        return len(self._signs)


def drawn(turns, signs):
    """Tell (place, k): the first k signs, the newest first, are the fewest that meet, at the place; None if none do."""
    draw = Draw(turns)
    # Signs behind the meeting are told, too, so that what is no sign is refused there as well.
    for sign in signs:
        draw.elder(sign)
    if draw.place() is None:
        return None
    return draw.place(), draw.used()


def drawn_doubled(turns, signs):
    """Tell what drawn tells, looking at the first 1, 2, 4, 8 .. signs only, at none with one place alone."""
    check_signs(turns, signs)
    if turns.many == 1:
        return 0, 0
    k = 1
    while k <= len(signs):
        newest_last = signs[:k][::-1]
        place = place_of_all(map_of(turns, newest_last))
        if place is not None:
            return place, k
        k = k * 2
    return None

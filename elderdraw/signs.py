"""Signs: the numbers from 0 to below how many signs turns have."""

from elderdraw.errors import NoSign
from elderdraw.kinds import is_whole_within


def check_signs(turns, things):
    """Refuse, of a list of anything, the first thing that is no sign of the turns."""
    for thing in things:
        if not is_whole_within(thing, 0, len(turns) - 1):
            raise NoSign(thing)

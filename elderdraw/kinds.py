"""What kind of thing a thing is."""


def is_whole(thing):
    """Tell of anything whether it is a whole number."""
    # Python takes True and False for ints, the document doesn't.
    return isinstance(thing, int) and not isinstance(thing, bool)


def is_whole_within(thing, least, most):
    """Tell of anything whether it is a whole number from least to most."""
    return is_whole(thing) and least <= thing <= most


def is_pair_of(thing, many):
    """Tell of anything whether it is a tuple of two numbers from 0 to below many."""
    return isinstance(thing, tuple) and len(thing) == 2 and all([is_whole_within(one, 0, many - 1) for one in thing])

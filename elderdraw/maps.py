"""Maps: tuples that tell, at number x, where place x is led."""


def staying(many):
    """Tell the map by which each of so many places stays where it is."""
    return tuple(range(many))


def one_then_other(one, other):
    """Tell the map that leads where one map and then the other lead."""
    return tuple([other[place] for place in one])


def place_of_all(leads):
    """Tell the place to which a map leads all places, None where it leads to several."""
    place = leads[0]
    if leads.count(place) == len(leads):
        return place
    return None

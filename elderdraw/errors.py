"""The refusals: what the program raises where it can't do what it is asked."""


class DrawError(ValueError):
    """Any refusal."""


class NoShare(DrawError):
    """What should make a share makes none; or a share was divided by the share 0."""


class NoWalk(DrawError):
    """What should make a walk makes none: part is the name of what is amiss first."""

    def __init__(self, part):
        self.part = part


class NotOne(DrawError):
    """A walk can rest in several ways: sets is the list of its closed sets."""

    def __init__(self, sets):
        self.sets = sets


class NoTurns(DrawError):
    """What should make turns makes none: part is the name of what is amiss first."""

    def __init__(self, part):
        self.part = part


class TooMany(DrawError):
    """There are more of something than are gone through."""


class NoSign(DrawError):
    """A thing is no sign of the turns: sign is the thing."""

    def __init__(self, sign):
        self.sign = sign


class NoOrder(DrawError):
    """What should make an order makes none; or an order has other places than the turns."""


class NotKept(DrawError):
    """A sign doesn't keep an order: kept tells which one, and for which places."""

    def __init__(self, kept):
        self.kept = kept


class NoEnds(DrawError):
    """An order has no least place, or no greatest one."""


class NeverMeets(DrawError):
    """No word meets: pair is one of two places that never do, or None."""

    def __init__(self, pair):
        self.pair = pair


class NoWeb(DrawError):
    """What should make a web makes none: part is the name of what is amiss first."""

    def __init__(self, part):
        self.part = part


class NoText(DrawError):
    """A thing is no text of turns: at is the number of the first word amiss, or None."""

    def __init__(self, at):
        self.at = at


class NoRow(DrawError):
    """A thing is no row that a desk answers."""


class NoName(DrawError):
    """A text is no name: name is the text."""

    def __init__(self, name):
        self.name = name


class NotThere(DrawError):
    """A desk keeps no turns by a name: name is the name."""

    def __init__(self, name):
        self.name = name

"""How tests ask that something is refused, with the value that it has."""

import unittest

from elderdraw.errors import NeverMeets, NoName, NoSign, NotOne, NotThere, NoText, NoWeb

VALUES = {NeverMeets: "pair", NoSign: "sign", NotOne: "sets", NoWeb: "part", NoText: "at", NoName: "name", NotThere: "name"}


class Refusals(unittest.TestCase):
    def refused(self, kind, value, deed, *told):
        """Asked twice, the deed is refused with a refusal of just this kind, whose value is the one told."""
        for _ in range(2):
            with self.assertRaises(kind) as caught:
                deed(*told)
            self.assertIs(type(caught.exception), kind)
            held = getattr(caught.exception, VALUES[kind])
            # The very thing is wanted, True for True and not 1, or what is equal where nothing that was handed in is told.
            equal = type(held) is type(value) and isinstance(value, (int, str, tuple)) or kind is NotOne
            self.assertTrue(held is value or equal and held == value, (held, value))

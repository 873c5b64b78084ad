"""Stage 5: ever elder, the points 5.1, 5.2 and 5.3, the example of 9.4, and 0.2 and 0.3 as far as draws go."""

import unittest
from itertools import chain
from random import Random

from elderdraw.elder import Draw, drawn, drawn_doubled
from elderdraw.errors import NoSign
from elderdraw.turns import Turns
from elderdraw.words import map_of, never_meet
from samples import (EXAMPLE, OTHER_KINDS, all_turns, down, knot, map_by_places, ring, side_by_side, some_turns, staying, up,
                     words_of)

NO_SIGNS = [*OTHER_KINDS, 2, 3, -1, -2, 10 ** 29, -10 ** 29, (), (0,), [], [0], knot(), EXAMPLE]
NEVER = Turns(2, [(0, 1), (1, 0)])
ALONE = Turns(1, [(0,), (0,)])


def met(turns, signs, k):
    """The place to which the first k signs, the newest first, lead all places; None where there is none."""
    word = list(reversed(signs[:k]))
    places = set(map_by_places(turns, word))
    return places.pop() if len(places) == 1 else None


def first_met(turns, signs, looks):
    for k in looks:
        if met(turns, signs, k) is not None:
            return met(turns, signs, k), k
    return None


def drawn_by_words(turns, signs):
    return first_met(turns, signs, range(len(signs) + 1))


def doubled_by_words(turns, signs):
    doubled = [2 ** power for power in range(12) if 2 ** power <= len(signs)]
    return first_met(turns, signs, [0, *doubled])


def some_row(chance, turns, length):
    return [chance.randrange(len(turns)) for _ in range(length)]


def turns_and_rows():
    """Turns of several sizes, each with rows of none to some hundred signs."""
    chance = Random(5)
    slow = [Turns(9, [up(9), down(9)]), Turns(32, [up(32), down(32), staying(32)]), Turns(6, [ring(6), (1, *range(1, 6))])]
    never = [NEVER, side_by_side([[down(3)], [up(3)]]), Turns(32, [ring(32)])]
    for turns in chain([EXAMPLE, ALONE], slow, never, some_turns(61, 20, 3, 2), some_turns(62, 20, 6, 4),
                       some_turns(63, 3, 32, 200)):
        for length in (0, 1, 2, 3, 4, 5, 8, 15, 16, 17, 33, 64, 130):
            yield turns, some_row(chance, turns, length)


class Signs(unittest.TestCase):
    def no_sign(self, sign, deed, *told):
        with self.assertRaises(NoSign) as caught:
            deed(*told)
        self.assertIs(caught.exception.sign, sign)

    def no_signs_are_refused(self, deed):
        """Of a row of signs each place is tried, with one thing that is no sign and with two."""
        for thing in NO_SIGNS:
            for signs in ([], [0], [1, 1, 0], [1, 0, 0, 1, 0, 1], [1] * 9):
                for at in range(len(signs) + 1):
                    row = [*signs[:at], thing, *signs[at:]]
                    for turns in (EXAMPLE, NEVER, ALONE):
                        self.no_sign(thing, deed, turns, row)
                        self.no_sign(thing, deed, turns, [*row, None])
        for one in NO_SIGNS:
            for other in NO_SIGNS:
                self.no_sign(one, deed, EXAMPLE, [one, other])
                self.no_sign(one, deed, EXAMPLE, [0, one, 1, other])

    def what_is_handed_in_stays(self, deed):
        signs = [1, 1, 0, 1]
        told = deed(EXAMPLE, signs)
        self.assertIs(type(told), tuple)
        self.assertEqual(deed(EXAMPLE, signs), told)
        self.assertEqual(signs, [1, 1, 0, 1])
        signs.append(None)
        self.no_sign(None, deed, EXAMPLE, signs)
        self.assertEqual(signs, [1, 1, 0, 1, None])
        self.assertEqual(EXAMPLE, Turns(2, [(0, 0), (1, 0)]))


class Point51(Signs):
    def test_the_example(self):
        self.assertEqual(drawn(EXAMPLE, [1, 1, 0]), (0, 3))
        self.assertEqual(drawn(EXAMPLE, [1, 0, 0]), (1, 2))
        self.assertEqual(drawn(EXAMPLE, [0]), (0, 1))
        self.assertEqual(drawn(EXAMPLE, [0, 1, 1]), (0, 1))

    def test_the_newest_comes_last(self):
        turns = Turns(3, [(0, 0, 0), (1, 2, 0)])
        self.assertEqual(drawn(turns, [0, 1]), (0, 1))
        self.assertEqual(drawn(turns, [1, 0]), (1, 2))
        self.assertEqual(drawn(turns, [1, 1, 0]), (2, 3))
        two = Turns(3, [(0, 0, 2), (1, 2, 2)])
        self.assertEqual((drawn(two, [0, 1]), drawn(two, [1, 0]), drawn(two, [1, 1])), (None, None, (2, 2)))
        self.assertEqual((drawn(two, [0, 1, 1]), drawn(two, [1, 0, 1, 1])), ((2, 3), (2, 4)))

    def test_none_where_not_even_all_do(self):
        self.assertIs(drawn(EXAMPLE, []), None)
        self.assertIs(drawn(EXAMPLE, [1]), None)
        self.assertIs(drawn(EXAMPLE, [1] * 300), None)
        self.assertIs(drawn(NEVER, [0, 1] * 200), None)
        self.assertIs(drawn(Turns(32, [ring(32)]), [0] * 500), None)

    def test_one_place(self):
        for signs in ([], [0], [1, 0], [0] * 300):
            self.assertEqual(drawn(ALONE, signs), (0, 0))

    def test_the_last_sign_of_a_long_row(self):
        for length in (1, 2, 100, 499):
            self.assertEqual(drawn(EXAMPLE, [1] * length + [0]), (length % 2, length + 1))
        self.assertEqual(drawn(Turns(32, [down(32)]), [0] * 31), (0, 31))
        self.assertIs(drawn(Turns(32, [down(32)]), [0] * 30), None)
        self.assertEqual(drawn(Turns(32, [down(32)]), [0] * 500), (0, 31))

    def test_by_words(self):
        for turns, signs in turns_and_rows():
            self.assertEqual(drawn(turns, signs), drawn_by_words(turns, signs))

    def test_all_small_turns_and_rows(self):
        for turns in chain(all_turns(2, 2), some_turns(64, 30, 3, 2)):
            for length in range(6):
                for signs in words_of(2, length):
                    self.assertEqual(drawn(turns, signs), drawn_by_words(turns, signs))

    def test_what_is_no_sign_also_behind_the_meeting(self):
        self.no_signs_are_refused(drawn)
        self.no_sign(None, drawn, EXAMPLE, [0] * 400 + [None])
        self.no_sign(7, drawn, ALONE, [7])

    def test_what_is_handed_in_stays(self):
        self.what_is_handed_in_stays(drawn)

    def test_of_all_rows_no_place_is_drawn_too_often(self):
        # The example rests at 0 with 2/3, at 1 with 1/3; one row of so many signs has not met.
        for length in range(1, 9):
            told = [drawn(EXAMPLE, signs) for signs in words_of(2, length)]
            self.assertEqual(told.count(None), 1)
            for place, share in ((0, 2), (1, 1)):
                number = sum(found is not None and found[0] == place for found in told)
                self.assertLessEqual(3 * number, share * 2 ** length)
                self.assertGreaterEqual(3 * (number + 1), share * 2 ** length)


class Point52(Signs):
    def test_the_example(self):
        self.assertIs(drawn_doubled(EXAMPLE, [1, 1, 0]), None)
        self.assertEqual(drawn_doubled(EXAMPLE, [1, 1, 0, 1]), (0, 4))
        self.assertEqual(drawn_doubled(EXAMPLE, [1, 0, 0]), (1, 2))
        self.assertEqual(drawn_doubled(EXAMPLE, [0, 1]), (0, 1))

    def test_the_looks(self):
        # The meeting is at just k signs: the first look at k or more of them tells it.
        for k in range(1, 70):
            look = 1
            while look < k:
                look *= 2
            for length in {k, k + 1, look - 1, look, look + 1, 2 * look - 1, 2 * look, 200}:
                if length >= k:
                    signs = [1] * (k - 1) + [0] + [1] * (length - k)
                    self.assertEqual(drawn(EXAMPLE, signs), ((k - 1) % 2, k))
                    wanted = ((k - 1) % 2, look) if length >= look else None
                    self.assertEqual(drawn_doubled(EXAMPLE, signs), wanted)

    def test_no_meeting(self):
        for turns, sign in ((EXAMPLE, 1), (NEVER, 0), (NEVER, 1), (Turns(32, [ring(32)]), 0)):
            for length in (0, 1, 2, 7, 8, 9, 300):
                self.assertIs(drawn_doubled(turns, [sign] * length), None)

    def test_one_place(self):
        for signs in ([], [0], [1, 0], [0, 1, 1], [0] * 300):
            self.assertEqual(drawn_doubled(ALONE, signs), (0, 0))

    def test_by_words(self):
        for turns, signs in turns_and_rows():
            self.assertEqual(drawn_doubled(turns, signs), doubled_by_words(turns, signs))

    def test_the_same_place_as_drawn(self):
        both = 0
        for turns, signs in turns_and_rows():
            one = drawn(turns, signs)
            other = drawn_doubled(turns, signs)
            if other is not None:
                both += 1
                self.assertEqual(one[0], other[0])
                self.assertTrue(one[1] <= other[1] <= max(1, 2 * one[1] - 1) or other == (0, 0))
        self.assertGreater(both, 100)

    def test_what_is_no_sign_also_where_it_is_not_looked_at(self):
        self.no_signs_are_refused(drawn_doubled)
        self.no_sign(None, drawn_doubled, EXAMPLE, [0] * 400 + [None])
        self.no_sign(7, drawn_doubled, ALONE, [7])

    def test_what_is_handed_in_stays(self):
        self.what_is_handed_in_stays(drawn_doubled)


class ElderSigns(unittest.TestCase):
    def test_what_has_met_has_met_for_ever(self):
        chance = Random(2)
        for turns, signs in turns_and_rows():
            told = drawn(turns, signs)
            doubled = drawn_doubled(turns, signs)
            elder = some_row(chance, turns, 40)
            if told is not None:
                self.assertEqual(drawn(turns, signs + elder), told)
                self.assertEqual(drawn(turns, signs[:told[1]]), told)
            if doubled is not None:
                self.assertEqual(drawn_doubled(turns, signs + elder), doubled)

    def test_rows_that_go_on_till_they_meet(self):
        chance = Random(3)
        for turns in chain(some_turns(65, 40, 4, 2), [Turns(8, [up(8), down(8)])]):
            told = drawn(turns, some_row(chance, turns, 500))
            if never_meet(turns):
                self.assertIs(told, None)
            else:
                self.assertIsNot(told, None)


class Point53(Signs):
    def state(self, draw):
        return draw.place(), draw.used(), draw.looked(), len(draw)

    def follow(self, turns, signs, draw):
        """The draw is told the signs one by one, and stands as the words say behind each."""
        for many in range(len(signs) + 1):
            told = drawn_by_words(turns, signs[:many])
            place, used = (None, many) if told is None else told
            word = list(reversed(signs[:used]))
            self.assertEqual(self.state(draw), (place, used, map_by_places(turns, word), many))
            if many < len(signs):
                behind = drawn_by_words(turns, signs[:many + 1])
                self.assertEqual(draw.elder(signs[many]), None if behind is None else behind[0])

    def test_the_example(self):
        draw = Draw(EXAMPLE)
        states = [self.state(draw)]
        for sign in (1, 1, 0, 1, 0):
            draw.elder(sign)
            states.append(self.state(draw))
        self.assertEqual(states, [(None, 0, (0, 1), 0), (None, 1, (1, 0), 1), (None, 2, (0, 1), 2), (0, 3, (0, 0), 3),
                                  (0, 3, (0, 0), 4), (0, 3, (0, 0), 5)])

    def test_elder_tells_the_place(self):
        draw = Draw(EXAMPLE)
        self.assertEqual([draw.elder(sign) for sign in (1, 0, 1, 1, 0)], [None, 1, 1, 1, 1])

    def test_behind_each_sign(self):
        for turns, signs in turns_and_rows():
            if len(signs) in (0, 1, 5, 33):
                self.follow(turns, signs, Draw(turns))

    def test_a_place_told_is_told_for_ever(self):
        draw = Draw(EXAMPLE)
        draw.elder(1)
        draw.elder(0)
        for many in range(3, 500):
            self.assertEqual(draw.elder(many % 2), 1)
            self.assertEqual(self.state(draw), (1, 2, (1, 1), many))

    def test_all_are_used_as_long_as_there_is_no_meeting(self):
        draw = Draw(NEVER)
        for many in range(1, 500):
            self.assertIs(draw.elder(1), None)
            self.assertEqual(self.state(draw), (None, many, (0, 1) if many % 2 == 0 else (1, 0), many))

    def test_one_place(self):
        draw = Draw(ALONE)
        for many in range(20):
            self.assertEqual(self.state(draw), (0, 0, (0,), many))
            self.assertEqual(draw.elder(many % 2), 0)

    def test_two_draws_told_signs_by_turns(self):
        turns = Turns(5, [up(5), down(5)])
        one, other = Draw(turns), Draw(turns)
        first, second = [], []
        for _ in range(12):
            for draw, signs, sign in ((one, first, 0), (other, second, 1)):
                draw.elder(sign)
                signs.append(sign)
                for held, told in ((one, first), (other, second)):
                    found = drawn(turns, told)
                    place, used = (None, len(told)) if found is None else found
                    self.assertEqual(self.state(held), (place, used, map_of(turns, told[:used]), len(told)))
        self.assertEqual((one.place(), other.place()), (4, 0))

    def test_draws_as_drawn(self):
        for turns, signs in turns_and_rows():
            draw = Draw(turns)
            for sign in signs:
                draw.elder(sign)
            told = drawn(turns, signs)
            self.assertEqual(None if draw.place() is None else (draw.place(), draw.used()), told)
            self.assertEqual(draw.looked(), map_of(turns, list(reversed(signs[:draw.used()]))))

    def test_what_is_no_sign_changes_nothing(self):
        for turns, signs in ((EXAMPLE, [1, 1, 0, 1, 0, 0]), (NEVER, [0, 1, 0, 0]), (ALONE, [0, 1])):
            draw = Draw(turns)
            twin = Draw(turns)
            for sign in [*signs, signs[0]]:
                before = self.state(draw)
                for thing in NO_SIGNS:
                    self.no_sign(thing, draw.elder, thing)
                    self.assertEqual(self.state(draw), before)
                self.assertEqual(draw.elder(sign), twin.elder(sign))
                self.assertEqual(self.state(draw), self.state(twin))

    def test_the_bounds_of_the_signs(self):
        draw = Draw(Turns(2, [(0, 1)] * 200))
        self.no_sign(200, draw.elder, 200)
        self.no_sign(-1, draw.elder, -1)
        self.assertIs(draw.elder(199), None)
        self.assertIs(draw.elder(0), None)
        self.assertEqual(len(draw), 2)

    def test_asked_again_the_same(self):
        draw = Draw(EXAMPLE)
        for sign in (1, 0, 1):
            draw.elder(sign)
            for _ in range(3):
                self.assertEqual(self.state(draw), self.state(draw))
        self.assertIs(type(draw.looked()), tuple)

    def test_the_maps_changed_behind_change_nothing(self):
        maps = [(0, 0), (1, 0)]
        turns = Turns(2, maps)
        draw = Draw(turns)
        draw.elder(1)
        maps[0] = (1, 1)
        maps.clear()
        self.assertEqual(draw.elder(0), 1)
        self.assertEqual((draw.used(), draw.looked(), len(draw)), (2, (1, 1), 2))
        self.assertEqual(turns, EXAMPLE)


if __name__ == "__main__":
    unittest.main()

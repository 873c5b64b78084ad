"""Stage 9: what goes wrong, the points 9.1, 9.2, 9.3 and 9.4, and 0.2 and 0.3 as far as these go."""

import unittest
from fractions import Fraction
from itertools import chain
from random import Random

from elderdraw.counts import counts
from elderdraw.elder import drawn
from elderdraw.errors import NeverMeets, NoSign, TooMany
from elderdraw.shares import Share
from elderdraw.tables import draw_shares
from elderdraw.turns import Turns, walk_of
from elderdraw.walks import is_resting, resting
from elderdraw.words import map_of, maps_of, meeting, never_meet
from elderdraw.wrong import forward_shares, forward_table, met_forward, tried_shares
from refusals import Refusals
from samples import (EXAMPLE, NEVER_300, NEVER_301, ONE_MORE, OTHER_KINDS, THREE_HUNDRED, down, found_by_words, fractions,
                     knot, large_turns, map_by_places, resets, ring, rings, side_by_side, some_turns, staying,
                     turns_that_meet, unit, up, words_of)

ALONE = Turns(1, [(0,), (0,)])
NEVER = Turns(2, [(0, 1), (1, 0)])
NO_SIGNS = [*OTHER_KINDS, 2, 3, -1, -2, 10 ** 29, -10 ** 29, (), (0,), [], [0], knot(), EXAMPLE]
# Sets of places: all, any two side by side on the ring, each one alone.
FORTY_ONE = Turns(20, [ring(20), (0,) + (1,) * 19])
# Likewise on a ring of 19, and a place beside it.
FORTY = Turns(20, [rings((19, 1)), (0,) + (1,) * 19, (19,) * 20])
MANY_MAPS_FEW_SETS = Turns(9, [ring(9), (1, 0, *range(2, 9)), (0,) * 9])


def forward_by_words(turns, word):
    for k in range(len(word) + 1):
        places = set(map_by_places(turns, word[:k]))
        if len(places) == 1:
            return places.pop(), k
    return None


def sets_by_words(turns):
    return found_by_words(turns, lambda leads: tuple(sorted(set(leads))))


def led(turns, places):
    """The sets to which each sign leads a set of places."""
    return [tuple(sorted({leads[place] for place in places})) for leads in turns.maps]


class Point91(Refusals):
    def test_the_example(self):
        self.assertEqual(met_forward(EXAMPLE, [0]), (0, 1))
        self.assertEqual(met_forward(EXAMPLE, [0, 1]), (0, 1))
        self.assertEqual(met_forward(EXAMPLE, [1, 1, 0, 1]), (0, 3))
        self.assertIs(met_forward(EXAMPLE, [1, 1]), None)

    def test_the_first_sign_comes_first(self):
        turns = Turns(3, [(0, 0, 2), (1, 2, 2)])
        self.assertEqual(met_forward(turns, [1, 1, 0]), (2, 2))
        self.assertIs(met_forward(turns, [1, 0]), None)
        self.assertEqual(met_forward(turns, [0, 1, 1, 0]), (2, 3))
        self.assertEqual((drawn(turns, [0, 1, 1]), met_forward(turns, [0, 1, 1])), ((2, 3), (2, 3)))

    def test_by_words(self):
        chance = Random(9)
        slow = [Turns(9, [up(9), down(9)]), Turns(32, [up(32), down(32), staying(32)]), Turns(6, [ring(6), (1, *range(1, 6))])]
        never = [NEVER, side_by_side([[down(3)], [up(3)]]), Turns(32, [ring(32)])]
        for turns in chain(turns_that_meet(), slow, never, some_turns(94, 20, 6, 4), some_turns(95, 3, 32, 200)):
            for length in (0, 1, 2, 3, 5, 9, 40, 130):
                word = [chance.randrange(len(turns)) for _ in range(length)]
                self.assertEqual(met_forward(turns, word), forward_by_words(turns, word))

    def test_long_words(self):
        for length in (1, 2, 100, 499):
            self.assertEqual(met_forward(EXAMPLE, [1] * length + [0]), (0, length + 1))
            self.assertIs(met_forward(EXAMPLE, [1] * length), None)
        self.assertEqual(met_forward(Turns(32, [down(32)]), [0] * 500), (0, 31))
        self.assertEqual(met_forward(Turns(32, [down(32)]), [0] * 31), (0, 31))
        self.assertIs(met_forward(Turns(32, [down(32)]), [0] * 30), None)

    def test_no_meeting(self):
        for turns in (NEVER, Turns(32, [ring(32)] * 2), side_by_side([[down(3)] * 2, [up(3)] * 2])):
            for length in (0, 1, 2, 500):
                self.assertIs(met_forward(turns, [length % 2] * length), None)
        self.assertIs(met_forward(EXAMPLE, []), None)

    def test_one_place(self):
        for word in ([], [0], [1, 0], [0] * 300):
            self.assertEqual(met_forward(ALONE, word), (0, 0))

    def test_the_meeting_word(self):
        for turns in turns_that_meet():
            word = meeting(turns)
            self.assertEqual(met_forward(turns, word), (map_of(turns, word)[0], len(word)))

    def test_what_is_no_sign_also_behind_the_meeting(self):
        for thing in NO_SIGNS:
            for word in ([], [0], [1, 1, 0], [1, 0, 0, 1]):
                for at in range(len(word) + 1):
                    for turns in (EXAMPLE, NEVER, ALONE):
                        self.refused(NoSign, thing, met_forward, turns, [*word[:at], thing, *word[at:]])
                        self.refused(NoSign, thing, met_forward, turns, [*word[:at], thing, *word[at:], None])
        self.refused(NoSign, None, met_forward, EXAMPLE, [0] * 400 + [None])
        self.refused(NoSign, 200, met_forward, Turns(1, [(0,)] * 200), [199, 200])

    def test_what_is_handed_in_stays(self):
        word = [1, 0, 1]
        told = met_forward(EXAMPLE, word)
        self.assertEqual((told, type(told), met_forward(EXAMPLE, word), word), ((0, 2), tuple, (0, 2), [1, 0, 1]))
        word.append(None)
        self.refused(NoSign, None, met_forward, EXAMPLE, word)
        self.assertEqual(word, [1, 0, 1, None])


class Point92(Refusals):
    def test_the_example(self):
        table = [(places, fractions(shares)) for places, shares in forward_table(EXAMPLE)]
        self.assertEqual(table, [((0, 1), [1, 0]), ((0,), [1, 0]), ((1,), [0, 1])])
        self.assertEqual(forward_shares(EXAMPLE), [Share(1), Share(0)])

    def test_small_turns_by_hand(self):
        # Half of the signs lead all to 1, a fourth all to 2, a fourth leads round.
        turns = Turns(3, [(1, 1, 1), (1, 1, 1), (2, 2, 2), (1, 2, 0)])
        self.assertEqual([places for places, _ in forward_table(turns)], [(0, 1, 2), (1,), (2,), (0,)])
        self.assertEqual(forward_shares(turns), [Share(0), Share(2, 3), Share(1, 3)])
        line = Turns(3, [up(3), down(3), down(3)])
        self.assertEqual(forward_shares(line), [Share(16, 21), Share(0), Share(5, 21)])
        self.assertEqual(dict(forward_table(line))[(0, 1)], [Share(6, 7), Share(0), Share(1, 7)])

    def test_the_sets_in_the_order_in_which_they_are_found(self):
        self.assertEqual([places for places, _ in forward_table(Turns(4, [up(4), down(4)]))],
                         [(0, 1, 2, 3), (1, 2, 3), (0, 1, 2), (2, 3), (0, 1), (3,), (1, 2), (0,), (2,), (1,)])
        self.assertEqual([places for places, _ in forward_table(Turns(4, [(3, 3, 3, 3), down(4)]))],
                         [(0, 1, 2, 3), (3,), (0, 1, 2), (2,), (0, 1), (1,), (0,)])
        self.assertEqual([places for places, _ in forward_table(Turns(4, [(3, 2, 2, 3), (0, 0, 0, 0)]))],
                         [(0, 1, 2, 3), (2, 3), (0,), (3,)])
        for turns in turns_that_meet():
            if turns.many <= 4:
                self.assertEqual([places for places, _ in forward_table(turns)], sets_by_words(turns))

    def test_the_equation_of_each_row(self):
        for turns in chain(turns_that_meet(), [FORTY, THREE_HUNDRED, MANY_MAPS_FEW_SETS]):
            table = {places: fractions(shares) for places, shares in forward_table(turns)}
            for places, shares in table.items():
                self.assertEqual((sum(shares), len(shares)), (1, turns.many))
                if len(places) == 1:
                    self.assertEqual(shares, unit(turns.many, places[0]))
                else:
                    ahead = [table[one] for one in led(turns, places)]
                    self.assertEqual(shares, [sum(column) / len(turns) for column in zip(*ahead)])

    def test_shares_in_lowest_terms(self):
        for turns in turns_that_meet():
            for _, shares in forward_table(turns):
                for share in shares:
                    told = Fraction(share.top, share.bottom)
                    self.assertEqual((type(share), share.top, share.bottom), (Share, told.numerator, told.denominator))

    def test_words_come_near_to_the_shares(self):
        for turns in (EXAMPLE, Turns(3, [up(3), down(3), down(3)]), Turns(3, [(1, 2, 0), (0, 0, 1), (1, 2, 1)])):
            told = [met_forward(turns, word) for word in words_of(len(turns), 7)]
            for place, share in enumerate(fractions(forward_shares(turns))):
                number = sum(one is not None and one[0] == place for one in told)
                self.assertTrue(number <= share * len(told) <= number + told.count(None))

    def test_the_first_set(self):
        for turns in chain(turns_that_meet(), [FORTY, MANY_MAPS_FEW_SETS]):
            first = forward_table(turns)[0]
            self.assertEqual(first, (staying(turns.many), forward_shares(turns)))

    def test_one_place(self):
        self.assertEqual(forward_table(ALONE), [((0,), [Share(1)])])
        self.assertEqual(forward_shares(ALONE), [Share(1)])

    def test_they_need_not_be_the_resting_row(self):
        self.assertNotEqual(forward_shares(EXAMPLE), resting(walk_of(EXAMPLE)))
        self.assertFalse(is_resting(walk_of(EXAMPLE), forward_shares(EXAMPLE)))

    def test_just_forty_sets(self):
        told = forward_table(FORTY)
        self.assertEqual((len(told), len({places for places, _ in told})), (40, 40))
        many_signs = Turns(20, [FORTY.maps[0]] * 180 + [FORTY.maps[1]] * 10 + [FORTY.maps[2]] * 10)
        self.assertEqual(len(forward_table(many_signs)), 40)

    def test_forty_one_sets(self):
        for turns in (FORTY_ONE, Turns(20, FORTY_ONE.maps[::-1]), Turns(20, [*resets(20, (3,)), *FORTY_ONE.maps])):
            self.assertEqual(never_meet(turns), [])
            self.assertRaises(TooMany, forward_table, turns)
            self.assertRaises(TooMany, forward_shares, turns)
        for turns in (Turns(9, [up(9), down(9)]), Turns(32, [ring(32), (1, *range(1, 32))]), *some_turns(96, 2, 32, 200)):
            self.assertRaises(TooMany, forward_table, turns)
            self.assertRaises(TooMany, forward_shares, turns)

    def test_never_meets_ahead_of_too_many(self):
        for deed in (forward_table, forward_shares):
            self.refused(NeverMeets, (0, 1), deed, NEVER)
            self.refused(NeverMeets, (0, 2), deed, Turns(4, [(0, 0, 2, 2)]))
            # Many sets, as both parts shrink by themselves; and turns with more than three hundred maps.
            self.refused(NeverMeets, (0, 7), deed, side_by_side([[down(7)], [down(7)]]))
            self.refused(NeverMeets, (0, 10), deed, side_by_side([[up(10), down(10)], [down(22)]]))
            self.refused(NeverMeets, never_meet(NEVER_301)[0], deed, NEVER_301)
            self.refused(NeverMeets, (0, 1), deed, NEVER_300)

    def test_no_bound_on_how_many_maps_there_are(self):
        self.assertRaises(TooMany, maps_of, MANY_MAPS_FEW_SETS)
        self.assertEqual(forward_shares(MANY_MAPS_FEW_SETS), [Share(1)] + [Share(0)] * 8)
        self.assertRaises(TooMany, maps_of, ONE_MORE)
        self.assertEqual(forward_shares(ONE_MORE), [Share(int(place in (0, 5, 12, 20)), 4) for place in range(21)])

    def test_told_lists_changed_change_nothing(self):
        turns = Turns(2, [(0, 0), (1, 0)])
        wanted = forward_table(EXAMPLE)
        told = forward_table(turns)
        self.assertEqual((type(told), type(told[0]), type(told[0][0]), type(told[0][1])), (list, tuple, tuple, list))
        self.assertEqual(len({id(shares) for _, shares in told}), 3)
        for _, shares in told:
            shares.append(None)
        told.clear()
        forward_shares(turns).reverse()
        self.assertEqual(forward_table(turns), wanted)
        self.assertEqual(forward_shares(turns), [Share(1), Share(0)])
        self.assertEqual(turns, EXAMPLE)


class Point93(Refusals):
    def test_the_example(self):
        self.assertEqual(tried_shares(EXAMPLE, 1), [Share(1), Share(0)])
        self.assertEqual(tried_shares(EXAMPLE, 2), [Share(2, 3), Share(1, 3)])
        self.assertEqual(tried_shares(EXAMPLE, 3), [Share(5, 7), Share(2, 7)])

    def test_by_counts(self):
        for turns in chain(turns_that_meet(), [THREE_HUNDRED, large_turns()]):
            for many in (0, 1, 2, 5, 60):
                places, _ = counts(turns, many)
                if sum(places) == 0:
                    self.refused(NeverMeets, None, tried_shares, turns, many)
                else:
                    told = tried_shares(turns, many)
                    self.assertEqual(fractions(told), [Fraction(number, sum(places)) for number in places])
                    self.assertEqual(sum(fractions(told)), 1)

    def test_by_rows(self):
        for turns in some_turns(97, 20, 3, 2):
            told = [drawn(turns, signs) for signs in words_of(2, 6)]
            met = [one[0] for one in told if one is not None]
            if met:
                self.assertEqual(fractions(tried_shares(turns, 6)), [Fraction(met.count(place), len(met)) for place in range(3)])

    def test_no_row_of_so_many_signs_meets(self):
        self.refused(NeverMeets, None, tried_shares, EXAMPLE, 0)
        for many in (0, 1, 2, 60):
            for turns in (NEVER, NEVER_300, Turns(4, [(0, 0, 2, 2)])):
                self.refused(NeverMeets, None, tried_shares, turns, many)
        line = Turns(32, [down(32)])
        for many in (0, 1, 29, 30):
            self.refused(NeverMeets, None, tried_shares, line, many)
        self.assertEqual(tried_shares(line, 31), [Share(1)] + [Share(0)] * 31)

    def test_one_place(self):
        for many in (0, 1, 60):
            self.assertEqual(tried_shares(ALONE, many), [Share(1)])

    def test_more_than_three_hundred_maps_ahead_of_that(self):
        for turns in (ONE_MORE, NEVER_301, Turns(32, [ring(32), (1, 0, *range(2, 32))])):
            for many in (0, 1, 60):
                self.assertRaises(TooMany, tried_shares, turns, many)

    def test_they_need_not_be_the_resting_row(self):
        for many in range(1, 60, 2):
            self.assertFalse(is_resting(walk_of(EXAMPLE), tried_shares(EXAMPLE, many)))

    def test_told_lists_changed_change_nothing(self):
        tried_shares(EXAMPLE, 2).clear()
        self.assertEqual((type(tried_shares(EXAMPLE, 2)), tried_shares(EXAMPLE, 2)), (list, [Share(2, 3), Share(1, 3)]))
        self.assertEqual(EXAMPLE, Turns(2, [(0, 0), (1, 0)]))


class Point94(unittest.TestCase):
    def test_the_whole_example(self):
        turns = Turns(2, [(0, 0), (1, 0)])
        self.assertEqual([str(share) for share in resting(walk_of(turns))], ["2/3", "1/3"])
        self.assertEqual(meeting(turns), [0])
        for length in range(9):
            for word in words_of(2, length):
                self.assertIs(len(set(map_of(turns, word))) == 1, 0 in word)
                self.assertEqual(met_forward(turns, word), (0, word.index(0) + 1) if 0 in word else None)
        self.assertEqual(drawn(turns, [1, 1, 0]), (0, 3))
        self.assertEqual(drawn(turns, [1, 0, 0]), (1, 2))
        self.assertEqual([str(share) for share in forward_shares(turns)], ["1", "0"])
        for many, told in ((1, ["1", "0"]), (2, ["2/3", "1/3"]), (3, ["5/7", "2/7"])):
            self.assertEqual([str(share) for share in tried_shares(turns, many)], told)
        self.assertEqual([str(share) for share in draw_shares(turns)], ["2/3", "1/3"])


if __name__ == "__main__":
    unittest.main()

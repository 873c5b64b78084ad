"""Stage 8: tables of averages, the points 8.1 and 8.2, and 0.2 and 0.3 as far as tables go."""

import unittest
from fractions import Fraction
from itertools import chain

from elderdraw.counts import counts
from elderdraw.errors import NeverMeets, TooMany
from elderdraw.shares import Share
from elderdraw.tables import draw_shares, draw_table, wait_table
from elderdraw.turns import Turns, walk_of
from elderdraw.walks import resting
from elderdraw.words import maps_of, never_meet
from refusals import Refusals
from samples import (EXAMPLE, NEVER_300, NEVER_301, ONE_MORE, THREE_HUNDRED, down, fractions, large_turns, meets, resets, ring,
                     rings, side_by_side, some_turns, staying, turns_that_meet, unit, up)

ALONE = Turns(1, [(0,), (0,)])
MANY_MAPS = Turns(32, [ring(32), (1, 0, *range(2, 32))])
# As many maps as there are turns of the ring, and places to which all may be led.
FORTY = Turns(20, [ring(20), (0,) * 20])
FORTY_ONE = Turns(21, [rings((20, 1)), *resets(21, (0, 20))])


def sign_ahead(turns, leads):
    """The maps that lead where each sign and then a map lead."""
    return [tuple(leads[place] for place in sign) for sign in turns.maps]


class Tables(Refusals):
    def first_pairs(self, deed):
        self.refused(NeverMeets, (0, 1), deed, Turns(2, [(0, 1)]))
        self.refused(NeverMeets, (0, 1), deed, NEVER_300)
        self.refused(NeverMeets, (0, 2), deed, Turns(4, [(0, 0, 2, 2)]))
        self.refused(NeverMeets, (0, 1), deed, Turns(3, [(1, 0, 0)]))
        self.refused(NeverMeets, (1, 3), deed, Turns(4, [(0, 1, 0, 3), (0, 1, 1, 3), (1, 1, 1, 3), (3, 1, 1, 3)]))
        for turns in chain(some_turns(84, 100, 3, 1), some_turns(85, 60, 4, 1)):
            if never_meet(turns):
                self.refused(NeverMeets, never_meet(turns)[0], deed, turns)

    def too_many_maps(self, deed):
        for turns in (ONE_MORE, NEVER_301, MANY_MAPS, *some_turns(86, 2, 32, 200)):
            self.assertRaises(TooMany, deed, turns)
            self.assertRaises(TooMany, deed, turns)


class Point81(Tables):
    def test_the_example(self):
        table = [(leads, fractions(shares)) for leads, shares in draw_table(EXAMPLE)]
        two, one = Fraction(2, 3), Fraction(1, 3)
        self.assertEqual(table, [((0, 1), [two, one]), ((0, 0), [1, 0]), ((1, 0), [one, two]), ((1, 1), [0, 1])])
        self.assertEqual(fractions(draw_shares(EXAMPLE)), [two, one])

    def test_each_map_in_the_order_of_the_maps(self):
        for turns in chain(turns_that_meet(), [THREE_HUNDRED]):
            self.assertEqual([leads for leads, _ in draw_table(turns)], maps_of(turns))

    def test_the_average_of_each_map(self):
        for turns in chain(turns_that_meet(), [THREE_HUNDRED]):
            told = draw_table(turns)
            table = {leads: fractions(shares) for leads, shares in told}
            for leads, shares in table.items():
                self.assertEqual(sum(shares), 1)
                self.assertEqual(len(shares), turns.many)
                if meets(leads):
                    self.assertEqual(shares, unit(turns.many, leads[0]))
                    continue
                ahead = [table[one] for one in sign_ahead(turns, leads)]
                self.assertEqual(shares, [sum(column) / len(turns) for column in zip(*ahead)])

    def test_shares_in_lowest_terms(self):
        for turns in turns_that_meet():
            for _, shares in draw_table(turns):
                for share in shares:
                    self.assertIs(type(share), Share)
                    told = Fraction(share.top, share.bottom)
                    self.assertEqual((share.top, share.bottom), (told.numerator, told.denominator))
                    self.assertTrue(0 <= told <= 1)

    def test_the_shares_with_which_the_draw_ends_rest(self):
        for turns in chain(turns_that_meet(), [THREE_HUNDRED, large_turns(), FORTY, FORTY_ONE]):
            self.assertEqual(draw_shares(turns), resting(walk_of(turns)))
            self.assertEqual(draw_shares(turns), draw_table(turns)[0][1])

    def test_of_any_map_the_resting_shares_of_the_places_that_it_leads_to_a_place(self):
        for turns in chain(turns_that_meet(), [THREE_HUNDRED, large_turns()]):
            rest = fractions(resting(walk_of(turns)))
            for leads, shares in draw_table(turns):
                wanted = [Fraction(0)] * turns.many
                for place, share in zip(leads, rest):
                    wanted[place] += share
                self.assertEqual(fractions(shares), wanted)

    def test_counts_come_near_to_the_shares(self):
        for turns in (EXAMPLE, Turns(4, [up(4), down(4), down(4)]), Turns(3, [(1, 2, 0), (0, 0, 1)])):
            places, none = counts(turns, 60)
            total = len(turns) ** 60
            for number, share in zip(places, fractions(draw_shares(turns))):
                self.assertTrue(number <= share * total <= number + none)

    def test_one_place(self):
        self.assertEqual(draw_table(ALONE), [((0,), [Share(1)])])
        self.assertEqual(draw_shares(ALONE), [Share(1)])

    def test_a_line_of_ten_places(self):
        # Two of three signs lead up, one down: each place rests with twice the share of the one below it.
        turns = Turns(10, [up(10), up(10), down(10)])
        self.assertLessEqual(len(maps_of(turns)), 300)
        total = 2 ** 10 - 1
        self.assertEqual(draw_shares(turns), [Share(2 ** place, total) for place in range(10)])
        table = dict(draw_table(turns))
        self.assertEqual(fractions(table[up(10)]),
                         [0] + [Fraction(2 ** (place - 1), total) for place in range(1, 9)] + [Fraction(2 ** 8 + 2 ** 9, total)])
        self.assertEqual(draw_shares(Turns(10, [down(10)])), [Share(1)] + [Share(0)] * 9)

    def test_just_three_hundred_maps(self):
        for turns in (THREE_HUNDRED, large_turns()):
            self.assertEqual(len(draw_table(turns)), 300)

    def test_more_than_three_hundred_maps(self):
        self.too_many_maps(draw_table)
        self.too_many_maps(draw_shares)

    def test_turns_that_never_meet(self):
        self.first_pairs(draw_table)
        self.first_pairs(draw_shares)

    def test_too_many_ahead_of_never_meets(self):
        for deed in (draw_table, draw_shares, wait_table):
            self.assertNotEqual(never_meet(NEVER_301), [])
            self.assertRaises(TooMany, deed, NEVER_301)
            self.assertRaises(TooMany, deed, MANY_MAPS)
            self.assertRaises(NeverMeets, deed, NEVER_300)

    def test_no_list_stands_in_two_rows(self):
        told = draw_table(FORTY)
        self.assertEqual((type(told), type(told[0]), type(told[0][1])), (list, tuple, list))
        self.assertEqual(len({id(shares) for _, shares in told}), 40)

    def test_told_lists_changed_change_nothing(self):
        maps = [(0, 0), (1, 0)]
        turns = Turns(2, maps)
        wanted = draw_table(EXAMPLE)
        told = draw_table(turns)
        for _, shares in told:
            shares.clear()
        told.pop()
        draw_shares(turns).append(None)
        maps.clear()
        self.assertEqual(draw_table(turns), wanted)
        self.assertEqual(draw_shares(turns), [Share(2, 3), Share(1, 3)])
        self.assertEqual(turns, EXAMPLE)


class Point82(Tables):
    def test_the_example(self):
        self.assertEqual(wait_table(EXAMPLE), [((0, 1), Share(2)), ((0, 0), Share(0)), ((1, 0), Share(2)), ((1, 1), Share(0))])

    def test_small_turns_by_hand(self):
        self.assertEqual(wait_table(ALONE), [((0,), Share(0))])
        self.assertEqual(wait_table(Turns(3, [(1, 1, 1)])), [((0, 1, 2), Share(1)), ((1, 1, 1), Share(0))])
        self.assertEqual(wait_table(Turns(3, [down(3)])), [((0, 1, 2), Share(2)), ((0, 0, 1), Share(1)), ((0, 0, 0), Share(0))])
        # One sign of four leads all to one place.
        self.assertEqual(wait_table(Turns(2, [(0, 1), (1, 1), (0, 1), (0, 1)])), [((0, 1), Share(4)), ((1, 1), Share(0))])
        # Up or down on three places: behind the first sign half of the signs meet, the others keep two places apart.
        told = dict(wait_table(Turns(3, [up(3), down(3)])))
        self.assertEqual(len(told), 8)
        self.assertEqual([told[leads] for leads in ((0, 1, 2), (1, 2, 2), (0, 0, 1), (1, 1, 2), (0, 1, 1), (1, 1, 1))],
                         [Share(3), Share(2), Share(2), Share(2), Share(2), Share(0)])

    def test_each_map_in_the_order_of_the_maps(self):
        for turns in turns_that_meet():
            if len(maps_of(turns)) <= 40:
                told = wait_table(turns)
                self.assertEqual([leads for leads, _ in told], maps_of(turns))
                self.assertEqual([type(share) for _, share in told], [Share] * len(told))

    def test_the_equation_of_each_row(self):
        tried = 0
        for turns in chain(turns_that_meet(), [FORTY, Turns(20, [ring(20)] * 150 + resets(20, range(20)))]):
            if len(maps_of(turns)) <= 40:
                table = {leads: Fraction(share.top, share.bottom) for leads, share in wait_table(turns)}
                for leads, share in table.items():
                    ahead = [table[one] for one in sign_ahead(turns, leads)]
                    self.assertEqual(share, 0 if meets(leads) else 1 + sum(ahead) / len(turns))
                tried += 1
        self.assertGreater(tried, 60)

    def test_the_average_of_the_rows_that_have_not_met(self):
        # A k-th sign is looked at where the k - 1 ahead of it have not met.
        for turns in (EXAMPLE, Turns(3, [up(3), down(3)]), Turns(3, [(1, 2, 0), (1, 1, 1)]), Turns(6, [down(6)])):
            looks = sum(Fraction(counts(turns, many)[1], len(turns) ** many) for many in range(61))
            share = wait_table(turns)[0][1]
            self.assertTrue(0 <= Fraction(share.top, share.bottom) - looks < Fraction(1, 10 ** 6))

    def test_just_forty_maps(self):
        self.assertEqual(len(maps_of(FORTY)), 40)
        told = wait_table(FORTY)
        self.assertEqual(told[0], (staying(20), Share(2)))
        self.assertEqual({str(share) for _, share in told}, {"0", "2"})
        many_signs = Turns(20, [ring(20)] * 199 + [(0,) * 20])
        self.assertEqual(wait_table(many_signs)[0], (staying(20), Share(200)))

    def test_forty_one_maps(self):
        self.assertEqual(len(maps_of(FORTY_ONE)), 41)
        self.assertRaises(TooMany, wait_table, FORTY_ONE)
        self.assertRaises(TooMany, wait_table, THREE_HUNDRED)
        self.assertRaises(TooMany, wait_table, FORTY_ONE)
        self.assertEqual(len(draw_table(FORTY_ONE)), 41)

    def test_never_meets_ahead_of_more_than_forty(self):
        self.first_pairs(wait_table)
        never = side_by_side([[ring(6)], [ring(7)]])
        self.assertEqual(len(maps_of(never)), 42)
        self.refused(NeverMeets, (0, 1), wait_table, never)
        self.refused(NeverMeets, (0, 1), wait_table, NEVER_300)

    def test_more_than_three_hundred_maps(self):
        self.too_many_maps(wait_table)

    def test_told_lists_changed_change_nothing(self):
        turns = Turns(2, [(0, 0), (1, 0)])
        wanted = wait_table(EXAMPLE)
        told = wait_table(turns)
        self.assertEqual((type(told), type(told[0])), (list, tuple))
        told.clear()
        self.assertEqual(wait_table(turns), wanted)
        self.assertEqual(turns, EXAMPLE)


if __name__ == "__main__":
    unittest.main()

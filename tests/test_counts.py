"""Stage 7: counts, the points 7.1 and 7.2, and 0.2 and 0.3 as far as counts go."""

import unittest
from itertools import chain

from elderdraw.counts import counts, map_counts
from elderdraw.elder import drawn
from elderdraw.errors import TooMany
from elderdraw.turns import Turns, walk_of
from elderdraw.walks import closed_sets, resting
from elderdraw.words import maps_of
from samples import (EXAMPLE, NEVER_300, NEVER_301, ONE_MORE, THREE_HUNDRED, all_turns, down, fractions, large_turns,
                     map_by_places, meets, ring, side_by_side, some_turns, staying, up, words_of)

ALONE = Turns(1, [(0,), (0,), (0,)])


def counts_by_rows(turns, many):
    numbers = [0] * turns.many
    none = 0
    for signs in words_of(len(turns), many):
        told = drawn(turns, signs)
        if told is None:
            none += 1
        else:
            numbers[told[0]] += 1
    return numbers, none


def map_counts_by_words(turns, many):
    numbers = {}
    for word in words_of(len(turns), many):
        leads = map_by_places(turns, word)
        numbers[leads] = numbers.get(leads, 0) + 1
    return sorted(numbers.items())


def small_turns():
    yield from all_turns(1, 2)
    yield from all_turns(2, 1)
    yield from all_turns(2, 2)
    yield from all_turns(2, 3)
    yield from some_turns(71, 30, 3, 2)
    yield from some_turns(72, 15, 3, 3)
    yield from some_turns(73, 10, 4, 2)
    yield Turns(4, [down(4), up(4)])
    yield Turns(5, [down(5), up(5), staying(5)])


class Point71(unittest.TestCase):
    def test_the_example(self):
        self.assertEqual(counts(EXAMPLE, 0), ([0, 0], 1))
        self.assertEqual(counts(EXAMPLE, 1), ([1, 0], 1))
        self.assertEqual(counts(EXAMPLE, 2), ([2, 1], 1))
        self.assertEqual(counts(EXAMPLE, 3), ([5, 2], 1))
        self.assertEqual(map_counts(EXAMPLE, 0), [((0, 1), 1)])
        self.assertEqual(map_counts(EXAMPLE, 1), [((0, 0), 1), ((1, 0), 1)])
        self.assertEqual(map_counts(EXAMPLE, 2), [((0, 0), 2), ((0, 1), 1), ((1, 1), 1)])

    def test_all_rows_gone_through(self):
        for turns in small_turns():
            for many in range(6):
                if len(turns) ** many <= 300:
                    self.assertEqual(counts(turns, many), counts_by_rows(turns, many))

    def test_all_words_gone_through(self):
        for turns in small_turns():
            for many in range(6):
                if len(turns) ** many <= 300:
                    self.assertEqual(map_counts(turns, many), map_counts_by_words(turns, many))

    def test_rows_are_told_from_the_newest_on(self):
        # Sign 0 leads all to 0: in a row of two signs the newer one tells where the elder one's place goes.
        turns = Turns(3, [(0, 0, 0), (1, 2, 0)])
        self.assertEqual(counts(turns, 2), ([2, 1, 0], 1))
        self.assertEqual(counts(turns, 3), ([4, 2, 1], 1))

    def test_no_signs(self):
        for turns in chain(small_turns(), [THREE_HUNDRED, NEVER_300]):
            wanted = ([1], 0) if turns.many == 1 else ([0] * turns.many, 1)
            self.assertEqual(counts(turns, 0), wanted)
            self.assertEqual(map_counts(turns, 0), [(staying(turns.many), 1)])

    def test_sixty_signs(self):
        # The only row that doesn't meet is that of sign 1 alone; Jacobsthal's numbers tell the others.
        places, none = counts(EXAMPLE, 60)
        self.assertEqual((places, none), ([(2 ** 61 - 2) // 3, (2 ** 60 - 1) // 3], 1))
        self.assertEqual(map_counts(EXAMPLE, 60), [((0, 0), (2 ** 61 - 2) // 3), ((0, 1), 1), ((1, 1), (2 ** 60 - 1) // 3)])
        self.assertEqual(map_counts(EXAMPLE, 59), [((0, 0), (2 ** 60 - 1) // 3), ((1, 0), 1), ((1, 1), (2 ** 59 - 2) // 3)])

    def test_one_place(self):
        for many in (0, 1, 2, 59, 60):
            self.assertEqual(counts(ALONE, many), ([3 ** many], 0))
            self.assertEqual(map_counts(ALONE, many), [((0,), 3 ** many)])
        self.assertEqual(counts(Turns(1, [(0,)] * 200), 60), ([200 ** 60], 0))

    def test_turns_that_never_meet(self):
        never = [Turns(2, [(0, 1), (1, 0)]), Turns(32, [ring(32)]), side_by_side([[down(3)], [up(2)]])]
        for turns in never:
            for many in (0, 1, 2, 7, 60):
                self.assertEqual(counts(turns, many), ([0] * turns.many, len(turns) ** many))
        self.assertEqual(map_counts(Turns(3, [ring(3)]), 60), [((0, 1, 2), 1)])
        self.assertEqual(map_counts(Turns(3, [ring(3)]), 59), [((2, 0, 1), 1)])

    def test_signs_that_have_one_map(self):
        turns = Turns(2, [(0, 0), (1, 0), (0, 0), (0, 0)])
        self.assertEqual(map_counts(turns, 1), [((0, 0), 3), ((1, 0), 1)])
        self.assertEqual(counts(turns, 2), ([12, 3], 1))

    def test_maps_that_no_word_of_so_many_signs_has(self):
        turns = Turns(4, [down(4)])
        self.assertEqual(len(maps_of(turns)), 4)
        for many, leads in ((0, (0, 1, 2, 3)), (1, (0, 0, 1, 2)), (2, (0, 0, 0, 1)), (3, (0, 0, 0, 0)), (60, (0, 0, 0, 0))):
            self.assertEqual(map_counts(turns, many), [(leads, 1)])

    def test_sorted_and_all_of_them(self):
        for turns in chain(some_turns(74, 10, 4, 3), [THREE_HUNDRED, NEVER_300, EXAMPLE]):
            for many in (0, 1, 5, 37, 60):
                told = map_counts(turns, many)
                maps = [leads for leads, _ in told]
                self.assertEqual(maps, sorted(set(maps)))
                self.assertLessEqual(set(maps), set(maps_of(turns)))
                self.assertGreater(min(number for _, number in told), 0)
                self.assertEqual(sum(number for _, number in told), len(turns) ** many)
                places, none = counts(turns, many)
                self.assertEqual(none, sum(number for leads, number in told if not meets(leads)))
                for place in range(turns.many):
                    leads = (place,) * turns.many
                    wanted = dict(told).get(leads, 0)
                    self.assertEqual(places[place], wanted)

    def test_just_three_hundred_maps(self):
        for turns in (THREE_HUNDRED, NEVER_300, large_turns()):
            self.assertEqual(len(maps_of(turns)), 300)
            places, none = counts(turns, 60)
            self.assertEqual(sum(places) + none, len(turns) ** 60)
        self.assertEqual(counts(THREE_HUNDRED, 1), ([int(place in (0, 5, 12)) for place in range(20)], 1))
        self.assertEqual(counts(THREE_HUNDRED, 2)[1], 1)
        self.assertEqual(len(map_counts(large_turns(), 60)), 300)

    def test_more_than_three_hundred_maps(self):
        many_more = [Turns(32, [ring(32), (1, 0, *range(2, 32))]), *some_turns(75, 2, 32, 200)]
        for turns in [ONE_MORE, NEVER_301, *many_more]:
            for many in (0, 1, 60):
                self.assertRaises(TooMany, counts, turns, many)
                self.assertRaises(TooMany, map_counts, turns, many)

    def test_the_lists_told_are_new_ones(self):
        for told in (counts(EXAMPLE, 3), counts(EXAMPLE, 3)):
            self.assertEqual((type(told), type(told[0]), type(told[1])), (tuple, list, int))
            told[0].clear()
        self.assertEqual(counts(EXAMPLE, 3), ([5, 2], 1))
        told = map_counts(EXAMPLE, 2)
        self.assertEqual((type(told), type(told[0]), type(told[0][0])), (list, tuple, tuple))
        told.pop()
        told[0] = None
        self.assertEqual(map_counts(EXAMPLE, 2), [((0, 0), 2), ((0, 1), 1), ((1, 1), 1)])
        self.assertEqual(EXAMPLE, Turns(2, [(0, 0), (1, 0)]))


class Point72(unittest.TestCase):
    def bounds_hold(self, turns, many):
        total = len(turns) ** many
        places, none = counts(turns, many)
        self.assertEqual(sum(places) + none, total)
        for share, number in zip(fractions(resting(walk_of(turns))), places):
            self.assertLessEqual(number, share * total)
            self.assertLessEqual(share * total, number + none)

    def test_the_resting_row_bounds_the_counts(self):
        tried = 0
        large = [THREE_HUNDRED, large_turns(), Turns(9, [up(9), down(9)]), Turns(8, [down(8), down(8), up(8)])]
        for turns in chain(small_turns(), some_turns(76, 20, 4, 3), large):
            if len(closed_sets(walk_of(turns))) == 1:
                for many in (0, 1, 2, 3, 10, 60):
                    self.bounds_hold(turns, many)
                tried += 1
        self.assertGreater(tried, 60)

    def test_turns_that_never_meet_and_rest_in_one_way(self):
        for turns in (Turns(2, [(1, 0)]), Turns(5, [ring(5)]), Turns(4, [ring(4), (3, 0, 1, 2)]), Turns(3, [(1, 0, 0), (1, 0, 1)])):
            self.assertEqual(len(closed_sets(walk_of(turns))), 1)
            self.bounds_hold(turns, 9)
            self.assertEqual(sum(counts(turns, 9)[0]), 0)

    def test_where_there_are_several_closed_sets_no_row_draws_a_place(self):
        tried = 0
        sides = [side_by_side([[down(4)], [up(3)]]), Turns(4, [(0, 0, 2, 2)]), Turns(32, [staying(32)] * 3), NEVER_300]
        for turns in chain(small_turns(), sides):
            if len(closed_sets(walk_of(turns))) > 1:
                for many in (0, 1, 5, 60):
                    self.assertEqual(counts(turns, many), ([0] * turns.many, len(turns) ** many))
                tried += 1
        self.assertGreater(tried, 8)

    def test_ever_more_have_met(self):
        # The share of those that have not met falls, and that of each place rises, to the resting share.
        for turns in (EXAMPLE, Turns(5, [up(5), down(5)]), Turns(3, [(1, 2, 0), (0, 0, 1)])):
            behind = counts(turns, 0)
            for many in range(1, 61):
                told = counts(turns, many)
                self.assertLessEqual(told[1], behind[1] * len(turns))
                for one, other in zip(told[0], behind[0]):
                    self.assertGreaterEqual(one, other * len(turns))
                behind = told


if __name__ == "__main__":
    unittest.main()

"""Stage 10: read once, the points 10.1, 10.2 and 10.3, and 0.2 and 0.3 as far as reading once goes."""

import unittest
from fractions import Fraction
from itertools import chain
from random import Random

from elderdraw.errors import NeverMeets, NoSign, TooMany
from elderdraw.once import blocks, once_shares, read_once
from elderdraw.shares import Share
from elderdraw.turns import Turns, walk_of
from elderdraw.walks import resting
from elderdraw.words import never_meet
from refusals import Refusals
from samples import (EXAMPLE, NEVER_300, NEVER_301, ONE_MORE, OTHER_KINDS, THREE_HUNDRED, down, fractions, knot, large_turns,
                     led, map_by_places, meets, ring, side_by_side, some_turns, turns_that_meet, up, words_of)

ALONE = Turns(1, [(0,), (0,), (0,)])
NEVER = Turns(2, [(0, 1), (1, 0)])
NO_SIGNS = [*OTHER_KINDS, 2, 3, -1, -2, 10 ** 29, -10 ** 29, (), (0,), [], [0], knot(), EXAMPLE]
MANY_MAPS = Turns(32, [ring(32), (1, 0, *range(2, 32))])


def blocks_by_words(turns, long):
    met = [0] * turns.many
    moved = [[0] * turns.many for _ in range(turns.many)]
    for word in words_of(len(turns), long):
        leads = map_by_places(turns, word)
        if meets(leads):
            met[leads[0]] += 1
        else:
            for x in range(turns.many):
                moved[x][leads[x]] += 1
    return met, moved


def read_by_words(turns, long, word):
    """What 10.2 tells: the place to which the signs lead from the first meeting on, ahead of the second block that meets."""
    parts = [word[at:at + long] for at in range(0, len(word) - long + 1, long)]
    at = [k for k, part in enumerate(parts) if meets(map_by_places(turns, part))]
    if len(at) < 2:
        return None
    between = word[at[0] * long:at[1] * long]
    return led(turns, between, 0), at[1] + 1


class Point101(Refusals):
    def test_the_example(self):
        self.assertEqual(blocks(EXAMPLE, 1), ([1, 0], [[0, 1], [1, 0]]))
        self.assertEqual(blocks(EXAMPLE, 2), ([2, 1], [[1, 0], [0, 1]]))
        self.assertEqual(blocks(EXAMPLE, 3), ([5, 2], [[0, 1], [1, 0]]))

    def test_small_turns_by_hand(self):
        turns = Turns(3, [(1, 1, 1), (0, 0, 1), (1, 2, 2), (1, 2, 2)])
        self.assertEqual(blocks(turns, 1), ([0, 1, 0], [[1, 2, 0], [1, 0, 2], [0, 1, 2]]))
        self.assertEqual(blocks(Turns(3, [down(3)]), 1), ([0, 0, 0], [[1, 0, 0], [1, 0, 0], [0, 1, 0]]))
        self.assertEqual(blocks(Turns(3, [down(3)]), 2), ([1, 0, 0], [[0, 0, 0]] * 3))

    def test_all_blocks_gone_through(self):
        never = [NEVER, Turns(4, [ring(4), (0, 0, 2, 2)]), side_by_side([[down(2)], [up(2)]])]
        for turns in chain(turns_that_meet(), some_turns(101, 20, 4, 3), never, [ALONE]):
            for long in (1, 2, 3, 4, 5):
                if len(turns) ** long <= 300:
                    self.assertEqual(blocks(turns, long), blocks_by_words(turns, long))

    def test_twelve_signs(self):
        self.assertEqual(blocks(EXAMPLE, 12), ([(2 ** 13 - 2) // 3, (2 ** 12 - 1) // 3], [[1, 0], [0, 1]]))
        self.assertEqual(blocks(Turns(2, [(0, 0), (1, 0)] * 100), 12),
                         ([100 ** 12 * ((2 ** 13 - 2) // 3), 100 ** 12 * ((2 ** 12 - 1) // 3)], [[100 ** 12, 0], [0, 100 ** 12]]))
        for turns in (THREE_HUNDRED, large_turns(), NEVER_300):
            for long in (1, 7, 12):
                met, moved = blocks(turns, long)
                total = len(turns) ** long
                self.assertEqual([len(row) for row in moved], [turns.many] * turns.many)
                self.assertEqual([sum(row) for row in moved], [total - sum(met)] * turns.many)
        self.assertEqual(sum(blocks(NEVER_300, 12)[0]), 0)
        self.assertEqual(blocks(THREE_HUNDRED, 12)[1][0][2], 1)

    def test_one_place(self):
        for long in (1, 2, 11, 12):
            self.assertEqual(blocks(ALONE, long), ([3 ** long], [[0]]))

    def test_more_than_three_hundred_maps(self):
        for turns in (ONE_MORE, NEVER_301, MANY_MAPS, *some_turns(102, 2, 32, 200)):
            for long in (1, 2, 12):
                self.assertRaises(TooMany, blocks, turns, long)

    def test_the_lists_are_new_ones(self):
        for turns in (EXAMPLE, THREE_HUNDRED, NEVER, ALONE):
            wanted = blocks(turns, 2)
            told = blocks(turns, 2)
            self.assertEqual((type(told), type(told[0]), type(told[1]), type(told[1][0])), (tuple, list, list, list))
            lists = [told[0], told[1], *told[1]]
            self.assertEqual(len({id(one) for one in lists}), turns.many + 2)
            for one in lists:
                one.clear()
            self.assertEqual(blocks(turns, 2), wanted)


class Point102(Refusals):
    def test_the_example(self):
        self.assertEqual(read_once(EXAMPLE, 1, [0, 0]), (0, 2))
        self.assertEqual(read_once(EXAMPLE, 1, [0, 1, 0]), (1, 3))
        self.assertEqual(read_once(EXAMPLE, 1, [1, 0, 1, 1, 0, 0, 1]), (0, 5))
        self.assertEqual(read_once(EXAMPLE, 2, [1, 1, 0, 1, 0, 0]), (1, 3))
        self.assertEqual(read_once(EXAMPLE, 2, [0, 1, 1, 1, 1, 1, 1, 0]), (1, 4))

    def test_the_place_ahead_of_the_block_that_meets(self):
        turns = Turns(3, [(1, 1, 1), (2, 2, 2), (1, 2, 0)])
        self.assertEqual(read_once(turns, 1, [0, 1]), (1, 2))
        self.assertEqual(read_once(turns, 1, [1, 0]), (2, 2))
        self.assertEqual(read_once(turns, 1, [2, 2, 1, 2, 1, 0, 2, 0]), (0, 5))
        self.assertEqual(read_once(turns, 2, [2, 2, 0, 2, 2, 2, 1, 0]), (1, 4))

    def test_no_whole_block_and_a_block_and_a_half(self):
        for long in range(1, 13):
            for length in range(2 * long):
                self.assertIs(read_once(EXAMPLE, long, [0] * length), None)
            for length in range(2 * long, 3 * long + 2):
                self.assertEqual(read_once(EXAMPLE, long, [0] * length), (0, 2))
        self.assertIs(read_once(EXAMPLE, 12, []), None)
        self.assertIs(read_once(EXAMPLE, 2, [0, 1, 0]), None)

    def test_fewer_than_two_blocks_meet(self):
        for long in (1, 2, 3, 12):
            self.assertIs(read_once(EXAMPLE, long, [1] * 400), None)
            self.assertIs(read_once(EXAMPLE, long, [0] + [1] * 400), None)
            self.assertIs(read_once(EXAMPLE, long, [1] * 400 + [0]), None)
            self.assertIs(read_once(NEVER, long, [0, 1, 1] * 150), None)
            self.assertIs(read_once(Turns(14, [down(14)]), long, [0] * 500), None)
        self.assertEqual(read_once(Turns(13, [down(13)]), 12, [0] * 500), (0, 2))

    def test_many_blocks(self):
        word = [0] + [1] * 497 + [0]
        self.assertEqual(read_once(EXAMPLE, 1, word), (1, 499))
        self.assertEqual(read_once(EXAMPLE, 1, word[:1] + word[2:]), (0, 498))

    def test_one_place(self):
        for long in (1, 2, 12):
            self.assertIs(read_once(ALONE, long, []), None)
            self.assertIs(read_once(ALONE, long, [0] * (2 * long - 1)), None)
            self.assertEqual(read_once(ALONE, long, [2, 1] * long), (0, 2))
            self.assertEqual(read_once(ALONE, long, [2, 1] * long + [0] * 50), (0, 2))

    def test_by_words(self):
        chance = Random(10)
        found = 0
        large = [THREE_HUNDRED, Turns(32, [up(32), down(32), down(32)]), MANY_MAPS, NEVER]
        for turns in chain(turns_that_meet(), some_turns(103, 20, 5, 3), some_turns(104, 2, 32, 200), large):
            for length in (0, 1, 2, 5, 9, 24, 130):
                word = [chance.randrange(len(turns)) for _ in range(length)]
                for long in (1, 2, 3, 5, 12):
                    told = read_once(turns, long, word)
                    self.assertEqual(told, read_by_words(turns, long, word))
                    found += told is not None
        self.assertGreater(found, 300)

    def test_what_comes_behind_changes_nothing(self):
        chance = Random(11)
        for turns in turns_that_meet():
            word = [chance.randrange(len(turns)) for _ in range(40)]
            told = read_once(turns, 2, word)
            if told is not None:
                self.assertEqual(read_once(turns, 2, word[:2 * told[1]]), told)
                self.assertIs(read_once(turns, 2, word[:2 * told[1] - 1]), None)

    def test_what_is_no_sign_also_behind_the_last_whole_block(self):
        for thing in NO_SIGNS:
            for word in ([], [0], [0, 0, 1], [1, 0, 0, 1, 0]):
                for at in range(len(word) + 1):
                    row = [*word[:at], thing, *word[at:]]
                    for turns in (EXAMPLE, NEVER):
                        for long in (1, 2, 3, 12):
                            self.refused(NoSign, thing, read_once, turns, long, row)
                            self.refused(NoSign, thing, read_once, turns, long, [*row, None])
        self.refused(NoSign, None, read_once, EXAMPLE, 12, [0] * 400 + [None])
        self.refused(NoSign, 3, read_once, ALONE, 1, [0, 0, 3])
        self.refused(NoSign, 200, read_once, Turns(1, [(0,)] * 200), 2, [199, 199, 199, 199, 200])

    def test_no_bound_of_maps(self):
        self.assertEqual(read_once(ONE_MORE, 1, [1, 0, 0, 2, 4]), (2, 4))

    def test_what_is_handed_in_stays(self):
        word = [0, 1, 1, 0, 1]
        told = read_once(EXAMPLE, 1, word)
        self.assertEqual((told, type(told), read_once(EXAMPLE, 1, word), word), ((0, 4), tuple, (0, 4), [0, 1, 1, 0, 1]))
        word.append(None)
        self.refused(NoSign, None, read_once, EXAMPLE, 1, word)
        self.assertEqual(word, [0, 1, 1, 0, 1, None])


class Point103(Refusals):
    def test_the_example(self):
        for long in range(1, 13):
            self.assertEqual(once_shares(EXAMPLE, long), [Share(2, 3), Share(1, 3)])

    def test_the_equation(self):
        for turns in chain(turns_that_meet(), [THREE_HUNDRED, large_turns()]):
            for long in (1, 2, 3, 12):
                met, moved = blocks(turns, long)
                if sum(met) == 0:
                    self.refused(NeverMeets, None, once_shares, turns, long)
                    continue
                shares = fractions(once_shares(turns, long))
                self.assertEqual((len(shares), sum(shares)), (turns.many, 1))
                for place, share in enumerate(shares):
                    arriving = sum(shares[x] * moved[x][place] for x in range(turns.many))
                    self.assertEqual(share * len(turns) ** long, met[place] + arriving)

    def test_the_resting_row_whatever_the_length_of_the_blocks(self):
        for turns in chain(turns_that_meet(), some_turns(105, 30, 4, 3), [THREE_HUNDRED, large_turns()]):
            for long in range(1, 13):
                if sum(blocks(turns, long)[0]) > 0:
                    self.assertEqual(once_shares(turns, long), resting(walk_of(turns)))

    def test_words_come_near_to_the_shares(self):
        for turns in (EXAMPLE, Turns(3, [(1, 1, 1), (0, 0, 1), (1, 2, 2)]), Turns(3, [(1, 2, 0), (0, 0, 1)])):
            for long, length in ((1, 6), (2, 8)):
                if sum(blocks(turns, long)[0]) > 0:
                    told = [read_once(turns, long, word) for word in words_of(len(turns), length)]
                    for place, share in enumerate(fractions(once_shares(turns, long))):
                        number = sum(one is not None and one[0] == place for one in told)
                        self.assertTrue(Fraction(number) <= share * len(told) <= number + told.count(None))

    def test_one_place(self):
        for long in (1, 2, 12):
            self.assertEqual(once_shares(ALONE, long), [Share(1)])

    def test_no_block_meets(self):
        for long in range(1, 13):
            for turns in (NEVER, NEVER_300, Turns(4, [(0, 0, 2, 2)]), Turns(32, [down(32)])):
                self.refused(NeverMeets, None, once_shares, turns, long)
            line = Turns(long + 1, [down(long + 1)])
            self.assertEqual(once_shares(line, long), [Share(1)] + [Share(0)] * long)
            self.refused(NeverMeets, None, once_shares, Turns(long + 2, [down(long + 2)]), long)

    def test_more_than_three_hundred_maps_ahead_of_that(self):
        for turns in (ONE_MORE, NEVER_301, MANY_MAPS):
            for long in (1, 12):
                self.assertRaises(TooMany, once_shares, turns, long)
        self.assertNotEqual(never_meet(NEVER_301), [])

    def test_the_list_told_is_a_new_one(self):
        once_shares(EXAMPLE, 2).clear()
        self.assertEqual((type(once_shares(EXAMPLE, 2)), once_shares(EXAMPLE, 2)), (list, [Share(2, 3), Share(1, 3)]))
        self.assertEqual(EXAMPLE, Turns(2, [(0, 0), (1, 0)]))


if __name__ == "__main__":
    unittest.main()

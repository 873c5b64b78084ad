"""Stage 1: shares, the points 1.1 and 1.2, and 0.3 as far as shares go."""

import sys
import unittest
from fractions import Fraction
from math import gcd

from elderdraw.errors import NoShare
from elderdraw.shares import Share, less, minus, over, plus, sum_of, times

HUGE = 10 ** 29
NOT_WHOLE = [True, False, None, "", "1", "1/2", b"1", [], [1], (), (1, 2), {}, {1: 2}, {1}, object(), int, len, 1j]
# Tops and bottoms of either sign, small, large, and with much in common.
PAIRS = [
    (0, 1), (0, -7), (1, 1), (-1, 1), (1, -1), (-1, -1), (2, 4), (-2, 4), (2, -4), (-2, -4), (6, 3), (7, 5),
    (HUGE, HUGE), (HUGE, 1), (-HUGE, 1), (1, -HUGE), (HUGE, HUGE - 1), (HUGE - 1, -HUGE), (HUGE // 2, HUGE),
    (3 ** 60, 3 ** 59), (2 ** 96 * 5, 2 ** 90 * 15), (HUGE * HUGE + 1, HUGE * 7), (-7 * HUGE ** 3, 14 * HUGE ** 2),
]


def shares_and_fractions():
    return [(Share(top, bottom), Fraction(top, bottom)) for top, bottom in PAIRS]


class Made(unittest.TestCase):
    def same(self, share, fraction):
        self.assertIsInstance(share, Share)
        self.assertEqual((share.top, share.bottom), (fraction.numerator, fraction.denominator))
        self.assertIs(type(share.top), int)
        self.assertIs(type(share.bottom), int)


class Point11(Made):
    def test_lowest_terms_and_the_bottom_above_0(self):
        for top, bottom in PAIRS:
            with self.subTest(top=top, bottom=bottom):
                share = Share(top, bottom)
                self.same(share, Fraction(top, bottom))
                self.assertEqual(gcd(share.top, share.bottom), 1)
                self.assertGreater(share.bottom, 0)

    def test_every_small_pair(self):
        for top in range(-12, 13):
            for bottom in [*range(-12, 0), *range(1, 13)]:
                self.same(Share(top, bottom), Fraction(top, bottom))

    def test_a_bottom_left_out_is_1(self):
        for top in (0, 5, -5, HUGE, -HUGE):
            self.same(Share(top), Fraction(top))

    def test_equal_where_they_stand_for_the_same_number(self):
        for one, first in shares_and_fractions():
            for other, second in shares_and_fractions():
                self.assertIs(one == other, first == second)
                self.assertIs(one != other, first != second)

    def test_equal_with_an_equal_one_otherwise_written(self):
        for one, other in [((1, 2), (-50, -100)), ((0, 1), (0, -9)), ((-3, 7), (3 * HUGE, -7 * HUGE)), ((4, 2), (2, 1))]:
            self.assertTrue(Share(*one) == Share(*other))
            self.assertTrue(Share(*other) == Share(*one))
            self.assertFalse(Share(*one) != Share(*other))

    def test_unequal_with_a_near_one(self):
        for one, other in [((1, HUGE), (1, HUGE - 1)), ((HUGE, HUGE - 1), (HUGE - 1, HUGE - 2)), ((1, 2), (-1, 2)),
                           ((1, 2), (2, 1)), ((1, 3), (2, 3)), ((0, 1), (1, HUGE)), ((3, 4), (3, 5))]:
            self.assertFalse(Share(*one) == Share(*other))
            self.assertFalse(Share(*other) == Share(*one))
            self.assertTrue(Share(*one) != Share(*other))

    def test_equal_to_nothing_that_is_no_share(self):
        class Alike:
            top = 2
            bottom = 1

        share = Share(2)
        for thing in [2, "2", "2/1", (2, 1), [2, 1], {"top": 2, "bottom": 1}, None, True, False, Fraction(2), Alike(), Share]:
            with self.subTest(thing=thing):
                self.assertFalse(share == thing)
                self.assertFalse(thing == share)
                self.assertTrue(share != thing)
                self.assertTrue(thing != share)
        self.assertFalse(Share(1) == True)
        self.assertFalse(False == Share(0))
        self.assertNotIn(Share(0), [0, False, None])

    def test_str(self):
        for share, fraction in shares_and_fractions():
            self.assertEqual(str(share), str(fraction))
        self.assertEqual(str(Share(6, -4)), "-3/2")
        self.assertEqual(str(Share(-6, -3)), "2")
        self.assertEqual(str(Share(0, 5)), "0")
        self.assertEqual(f"{Share(1, HUGE)}", "1/1" + "0" * 29)

    def test_str_about_the_bounds_of_pieces(self):
        for power in (59, 60, 61, 119, 120, 121, 180, 600):
            for number in (10 ** power - 1, 10 ** power, 10 ** power + 1, 7 * 10 ** power + 10 ** (power // 2)):
                self.assertEqual(str(Share(number)), str(number))
                self.assertEqual(str(Share(-number)), str(-number))
                self.assertEqual(str(Share(1, number)), "1/" + str(number))

    def test_str_of_any_size(self):
        share = Share(-(10 ** 9001) - 907, 10 ** 5000)
        self.assertEqual(str(share), "-1" + "0" * 8998 + "907/1" + "0" * 5000)
        self.assertEqual(str(Share(10 ** 6000)), "1" + "0" * 6000)

    def test_a_top_or_bottom_of_another_kind_is_refused(self):
        for thing in [*NOT_WHOLE, Share(1)]:
            with self.subTest(thing=thing):
                self.assertRaises(NoShare, Share, thing)
                self.assertRaises(NoShare, Share, thing, 2)
                self.assertRaises(NoShare, Share, 2, thing)
                self.assertRaises(NoShare, Share, 0, thing)
                self.assertRaises(NoShare, Share, thing, thing)
                self.assertRaises(NoShare, Share, thing, 0)

    def test_the_bottom_0_is_refused(self):
        for top in (0, 1, -1, HUGE):
            self.assertRaises(NoShare, Share, top, 0)

    def test_a_list_that_holds_itself_is_refused(self):
        knot = []
        knot.append(knot)
        self.assertRaises(NoShare, Share, knot)
        self.assertRaises(NoShare, Share, 1, knot)


class Point12(Made):
    def test_plus_minus_times(self):
        for one, first in shares_and_fractions():
            for other, second in shares_and_fractions():
                self.same(plus(one, other), first + second)
                self.same(minus(one, other), first - second)
                self.same(times(one, other), first * second)

    def test_over(self):
        for one, first in shares_and_fractions():
            for other, second in shares_and_fractions():
                if second != 0:
                    self.same(over(one, other), first / second)
                else:
                    self.assertRaises(NoShare, over, one, other)

    def test_less(self):
        for one, first in shares_and_fractions():
            for other, second in shares_and_fractions():
                self.assertIs(less(one, other), first < second)

    def test_less_both_ways_about_and_of_equal_ones(self):
        self.assertIs(less(Share(1, 3), Share(1, 2)), True)
        self.assertIs(less(Share(1, 2), Share(1, 3)), False)
        self.assertIs(less(Share(-1, 2), Share(-1, 3)), True)
        self.assertIs(less(Share(-1, 3), Share(-1, 2)), False)
        self.assertIs(less(Share(2, 4), Share(1, 2)), False)
        self.assertIs(less(Share(0), Share(0, -3)), False)

    def test_what_was_handed_in_stays(self):
        one, other = Share(3, 4), Share(-5, 6)
        for deed in (plus, minus, times, over, less):
            told = deed(one, other)
            self.assertEqual(deed(one, other), told)
        self.assertRaises(NoShare, over, one, Share(0))
        self.assertEqual((one.top, one.bottom, other.top, other.bottom), (3, 4, -5, 6))

    def test_sum_of_none_of_one_of_some(self):
        self.same(sum_of([]), Fraction(0))
        self.same(sum_of([Share(-4, 6)]), Fraction(-2, 3))
        self.same(sum_of([Share(1, 2), Share(1, 3), Share(1, 6)]), Fraction(1))
        self.same(sum_of([Share(1, 2), Share(-1, 2)]), Fraction(0))
        share = Share(1, 4)
        self.same(sum_of([share, share, share]), Fraction(3, 4))
        self.same(sum_of([share for share, _ in shares_and_fractions()]),
                  sum([fraction for _, fraction in shares_and_fractions()]))

    def test_sum_of_many(self):
        for step in (1, 10 ** 25 + 13):
            pairs = [((-1) ** k * (k * step + 1), step + k * k) for k in range(200)]
            shares = [Share(top, bottom) for top, bottom in pairs]
            self.same(sum_of(shares), sum([Fraction(top, bottom) for top, bottom in pairs]))

    def test_a_sum_of_many_has_a_text(self):
        shares = [Share(1, HUGE - k) for k in range(200)]
        total = sum_of(shares)
        self.assertGreater(total.bottom, 10 ** 4300)
        bound = sys.get_int_max_str_digits()
        self.addCleanup(sys.set_int_max_str_digits, bound)
        text = str(total)
        sys.set_int_max_str_digits(0)
        self.assertEqual(text, f"{total.top}/{total.bottom}")

    def test_the_list_stays(self):
        shares = [Share(1, 2), Share(1, 3), Share(-4, 5)]
        before = list(shares)
        told = sum_of(shares)
        self.assertEqual(len(shares), 3)
        for share, was in zip(shares, before):
            self.assertIs(share, was)
        self.assertEqual([(share.top, share.bottom) for share in shares], [(1, 2), (1, 3), (-4, 5)])
        self.assertEqual(sum_of(shares), told)


if __name__ == "__main__":
    unittest.main()

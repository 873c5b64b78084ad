"""Stage 2: walks, the points 2.1, 2.2 and 2.3, and 0.3 as far as walks go."""

import copy
import unittest
from fractions import Fraction
from itertools import combinations
from random import Random

from elderdraw.errors import NotOne, NoWalk
from elderdraw.shares import Share, plus, sum_of, times
from elderdraw.walks import Walk, closed_sets, is_resting, resting

MOST = 10 ** 6
OTHER_KINDS = [True, False, None, "", "1", "rows", b"1", (), (1,), {}, {0: 1}, {1}, object(), int, len, 1j, Share(1)]


def unit(many, at, whole=1):
    return [whole if y == at else 0 for y in range(many)]


def still(many, whole=1):
    """The walk on which each place stays where it is."""
    return Walk(whole, [unit(many, x, whole) for x in range(many)])


def ring(many):
    return Walk(1, [unit(many, (x + 1) % many) for x in range(many)])


def some_row(chance, many, whole, gaps):
    """A row that comes to the whole, with 0 at about gaps of ten places."""
    row = [0] * many
    open_places = [y for y in range(many) if chance.randrange(10) >= gaps] or [chance.randrange(many)]
    cuts = sorted(chance.randrange(whole + 1) for _ in open_places[1:])
    for y, low, high in zip(open_places, [0, *cuts], [*cuts, whole]):
        row[y] = high - low
    return row


def some_walks(many_walks, many, whole, gaps):
    chance = Random(many_walks * 1000 + many * 10 + gaps)
    for _ in range(many_walks):
        yield Walk(whole, [some_row(chance, many, whole, gaps) for _ in range(many)])


def closed_sets_by_trial(walk):
    """All sets of places are tried, as 2.2 says what a closed set is."""
    many = len(walk)

    def leads(one, other):
        return walk.rows[one][other] > 0

    def within(start, places):
        found = {start}
        for _ in places:
            found |= {y for x in found for y in places if leads(x, y)}
        return found

    sets = []
    for size in range(1, many + 1):
        for places in combinations(range(many), size):
            outside = [y for y in range(many) if y not in places]
            if not any(leads(x, y) for x in places for y in outside):
                if all(within(x, places) == set(places) for x in places):
                    sets.append(places)
    return sorted(sets)


def rests(walk, fractions):
    """Whether fractions are a resting row, by the words of 2.3."""
    many = len(walk)
    arriving = [sum(fractions[x] * Fraction(walk.rows[x][y], walk.whole) for x in range(many)) for y in range(many)]
    return sum(fractions) == 1 and min(fractions) >= 0 and arriving == fractions


def as_fractions(shares):
    return [Fraction(share.top, share.bottom) for share in shares]


class Point21(unittest.TestCase):
    def refused(self, part, whole, rows):
        with self.assertRaises(NoWalk) as caught:
            Walk(whole, rows)
        self.assertEqual(caught.exception.part, part)

    def test_a_walk_has_its_values(self):
        walk = Walk(4, [[1, 3], [4, 0]])
        self.assertEqual((walk.whole, walk.rows, len(walk)), (4, [[1, 3], [4, 0]], 2))

    def test_shares_of_steps(self):
        walk = Walk(6, [[1, 3, 2], [6, 0, 0], [0, 2, 4]])
        told = [[str(walk.share(x, y)) for y in range(3)] for x in range(3)]
        self.assertEqual(told, [["1/6", "1/2", "1/3"], ["1", "0", "0"], ["0", "1/3", "2/3"]])
        self.assertIsInstance(walk.share(0, 0), Share)
        self.assertEqual(walk.share(0, 1), walk.share(0, 1))

    def test_the_bounds_of_the_whole(self):
        for whole in (1, 2, MOST - 1, MOST):
            self.assertEqual(Walk(whole, [[whole]]).whole, whole)
        for whole in (0, -1, -MOST, MOST + 1, 10 ** 29, -10 ** 29):
            self.refused("whole", whole, [[whole]])

    def test_another_kind_as_the_whole(self):
        for thing in [*OTHER_KINDS, [1], [[1]]]:
            with self.subTest(thing=thing):
                self.refused("whole", thing, [[1]])

    def test_the_bounds_of_the_rows(self):
        for many in (1, 2, 31, 32):
            self.assertEqual(len(still(many)), many)
            self.assertEqual(len(Walk(MOST, [unit(many, 0, MOST)] * many)), many)
        self.refused("rows", 1, [])
        self.refused("rows", 1, [[]])
        for many in (33, 34, 100, 500):
            self.refused("rows", 1, [unit(many, x) for x in range(many)])

    def test_rows_of_unlike_lengths(self):
        for rows in [[[1, 0]], [[1], [1]], [[1, 0], [1]], [[1, 0], [1, 0, 0]], [[1, 0, 0], [0, 1, 0]],
                     [[1, 0], []], [[], []], [unit(32, 0)] * 31, [unit(31, 0)] * 32]:
            self.refused("rows", 1, rows)

    def test_another_kind_as_rows_a_row_a_number(self):
        for thing in OTHER_KINDS:
            with self.subTest(thing=thing):
                self.refused("rows", 1, thing)
                self.refused("rows", 1, [thing])
                self.refused("rows", 1, [[thing]])
                self.refused("rows", 1, [[1, 0], thing])
                self.refused("rows", 1, [[1, 0], [1, thing]])
                self.refused("rows", 1, [[thing, 1], [1, 0]])
        self.refused("rows", 1, 1)
        self.refused("rows", 1, [1])
        self.refused("rows", 1, [[[1]]])
        self.refused("rows", 1, ([1, 0], [0, 1]))
        self.refused("rows", 1, [(1, 0), (0, 1)])
        self.refused("rows", 1, {0: [1]})

    def test_truths_that_come_to_the_whole(self):
        self.refused("rows", 1, [[True]])
        self.refused("rows", 2, [[True, True], [1, 1]])
        self.refused("rows", 1, [[1, 0], [1, False]])

    def test_another_sum(self):
        for rows in [[[2, 0], [1, 0]], [[0, 0], [1, 1]], [[1, 1], [2, 1]], [[3, 0], [1, 1]], [[0, 2], [0, 0]],
                     [[1, 1], [10 ** 29, 0]]]:
            self.refused("rows", 2, rows)

    def test_numbers_that_take_one_another_away(self):
        self.refused("rows", 2, [[3, -1], [1, 1]])
        self.refused("rows", 2, [[1, 1], [-1, 3]])
        self.refused("rows", 1, [[1, 10 ** 29, -10 ** 29], [1, 0, 0], [1, 0, 0]])
        self.refused("rows", 1, [[-1]])

    def test_both_amiss(self):
        for whole in (0, True, None, "1", MOST + 1, [1]):
            for rows in ([], None, [[2]], [[1], [1]], "rows"):
                self.refused("whole", whole, rows)

    def test_lists_that_hold_themselves(self):
        knot = []
        knot.append(knot)
        self.refused("rows", 1, knot)
        self.refused("rows", 1, [knot])
        self.refused("whole", knot, knot)

    def test_the_values_are_lists_of_their_own(self):
        rows = [[1, 1], [2, 0]]
        walk = Walk(2, rows)
        self.assertIsNot(walk.rows, rows)
        for own, row in zip(walk.rows, rows):
            self.assertIsNot(own, row)
        told = resting(walk)
        rows[0][0] = 7
        rows[1].append(5)
        rows.append([0])
        self.assertEqual(walk.rows, [[1, 1], [2, 0]])
        self.assertEqual((len(walk), resting(walk), walk.share(0, 0)), (2, told, Share(1, 2)))

    def test_one_list_handed_in_as_several_rows(self):
        row = [1, 1]
        walk = Walk(2, [row, row])
        self.assertEqual(walk.rows, [[1, 1], [1, 1]])
        self.assertIsNot(walk.rows[0], walk.rows[1])

    def test_what_is_handed_in_stays(self):
        for whole, rows in [(2, [[1, 1], [2, 0]]), (2, [[1, 1], [2, 1]]), (0, [[0]]), (1, [[1], (1,)])]:
            before = copy.deepcopy(rows)
            try:
                Walk(whole, rows)
            except NoWalk:
                pass
            self.assertEqual(rows, before)


class Point22(unittest.TestCase):
    def test_one_closed_set(self):
        self.assertEqual(closed_sets(Walk(2, [[1, 1], [2, 0]])), [(0, 1)])
        self.assertEqual(closed_sets(ring(7)), [tuple(range(7))])

    def test_places_outside(self):
        self.assertEqual(closed_sets(Walk(2, [[1, 1], [0, 2]])), [(1,)])
        self.assertEqual(closed_sets(Walk(2, [[1, 1, 0], [0, 1, 1], [0, 2, 0]])), [(1, 2)])
        self.assertEqual(closed_sets(Walk(2, [[2, 0, 0], [1, 0, 1], [0, 2, 0]])), [(0,)])
        # Places 0 and 2 come to one another, but leave for place 1 as well.
        self.assertEqual(closed_sets(Walk(2, [[0, 0, 2], [0, 2, 0], [1, 1, 0]])), [(1,)])

    def test_several_closed_sets_by_their_first_places(self):
        self.assertEqual(closed_sets(still(3)), [(0,), (1,), (2,)])
        walk = Walk(1, [unit(5, 4), unit(5, 3), unit(5, 2), unit(5, 1), unit(5, 0)])
        self.assertEqual(closed_sets(walk), [(0, 4), (1, 3), (2,)])
        walk = Walk(2, [[0, 0, 1, 1], [0, 2, 0, 0], [0, 0, 0, 2], [0, 0, 2, 0]])
        self.assertEqual(closed_sets(walk), [(1,), (2, 3)])

    def test_one_place(self):
        self.assertEqual(closed_sets(Walk(5, [[5]])), [(0,)])

    def test_thirty_two_places(self):
        self.assertEqual(closed_sets(ring(32)), [tuple(range(32))])
        self.assertEqual(closed_sets(still(32)), [(x,) for x in range(32)])
        down = Walk(1, [unit(32, max(x - 1, 0)) for x in range(32)])
        self.assertEqual(closed_sets(down), [(0,)])
        up = Walk(1, [unit(32, min(x + 1, 31)) for x in range(32)])
        self.assertEqual(closed_sets(up), [(31,)])
        pairs = Walk(1, [unit(32, 31 - x) for x in range(32)])
        self.assertEqual(closed_sets(pairs), [(x, 31 - x) for x in range(16)])

    def test_by_trial(self):
        seen = set()
        for many in range(1, 7):
            for gaps in (5, 7, 8, 9):
                for walk in some_walks(30, many, 6, gaps):
                    told = closed_sets(walk)
                    self.assertEqual(told, closed_sets_by_trial(walk))
                    seen.add((len(told), sum(len(places) for places in told) == many))
        self.assertLess({(1, True), (1, False), (2, True), (2, False), (3, False)}, seen)

    def test_kinds_and_new_lists(self):
        walk = still(3)
        told = closed_sets(walk)
        self.assertIs(type(told), list)
        self.assertEqual([type(places) for places in told], [tuple] * 3)
        told.append("more")
        del told[0]
        self.assertEqual(closed_sets(walk), [(0,), (1,), (2,)])
        self.assertIsNot(closed_sets(walk), closed_sets(walk))
        self.assertEqual((walk.whole, walk.rows), (1, [[1, 0, 0], [0, 1, 0], [0, 0, 1]]))


class Point23Resting(unittest.TestCase):
    def test_the_example(self):
        self.assertEqual(resting(Walk(2, [[1, 1], [2, 0]])), [Share(2, 3), Share(1, 3)])

    def test_one_place(self):
        self.assertEqual(resting(Walk(7, [[7]])), [Share(1)])

    def test_0_outside_of_the_set(self):
        self.assertEqual(resting(Walk(2, [[1, 1], [0, 2]])), [Share(0), Share(1)])
        walk = Walk(3, [[1, 1, 1, 0], [0, 0, 0, 3], [1, 1, 0, 1], [0, 1, 0, 2]])
        self.assertEqual(resting(walk), [Share(0), Share(1, 4), Share(0), Share(3, 4)])
        up = Walk(1, [unit(32, min(x + 1, 31)) for x in range(32)])
        self.assertEqual(resting(up), [Share(0)] * 31 + [Share(1)])

    def test_walks_that_go_round(self):
        self.assertEqual(resting(ring(32)), [Share(1, 32)] * 32)
        self.assertEqual(resting(Walk(1, [[0, 1], [1, 0]])), [Share(1, 2), Share(1, 2)])

    def test_very_unlike_shares(self):
        # Each place is left upwards seldom and downwards nearly always.
        rows = [[0] * 32 for _ in range(32)]
        for x in range(32):
            rows[x][max(x - 1, 0)] += MOST - 1
            rows[x][min(x + 1, 31)] += 1
        told = resting(Walk(MOST, rows))
        total = sum((MOST - 1) ** k for k in range(32))
        self.assertEqual(as_fractions(told), [Fraction((MOST - 1) ** (31 - x), total) for x in range(32)])

    def test_by_the_words(self):
        met = {1: 0, 2: 0}
        for many in (1, 2, 3, 4, 5, 8, 13):
            for gaps in (0, 5, 8, 9):
                for walk in some_walks(20, many, 60, gaps):
                    sets = closed_sets(walk)
                    met[min(len(sets), 2)] += 1
                    if len(sets) == 1:
                        told = resting(walk)
                        self.assertTrue(rests(walk, as_fractions(told)))
                        self.assertTrue(is_resting(walk, told))
                        outside = [y for y in range(many) if told[y] == Share(0)]
                        self.assertEqual(outside, [y for y in range(many) if y not in sets[0]])
                    else:
                        with self.assertRaises(NotOne) as caught:
                            resting(walk)
                        self.assertEqual(caught.exception.sets, sets)
        self.assertGreater(min(met.values()), 50)

    def test_thirty_two_places_of_a_large_whole(self):
        for gaps in (0, 8):
            for walk in some_walks(2, 32, MOST, gaps):
                told = resting(walk)
                self.assertTrue(rests(walk, as_fractions(told)))
                self.assertTrue(is_resting(walk, told))

    def test_several_closed_sets_are_refused(self):
        for walk, sets in [(still(2), [(0,), (1,)]), (still(32), [(x,) for x in range(32)]),
                           (Walk(2, [[0, 0, 1, 1], [0, 2, 0, 0], [0, 0, 0, 2], [0, 0, 2, 0]]), [(1,), (2, 3)])]:
            with self.assertRaises(NotOne) as caught:
                resting(walk)
            self.assertEqual(caught.exception.sets, sets)
            caught.exception.sets.clear()
            with self.assertRaises(NotOne) as again:
                resting(walk)
            self.assertEqual(again.exception.sets, sets)

    def test_kinds_and_new_lists(self):
        walk = Walk(2, [[1, 1], [2, 0]])
        told = resting(walk)
        self.assertIs(type(told), list)
        self.assertEqual([type(share) for share in told], [Share] * 2)
        told[0] = None
        told.append(Share(1))
        self.assertEqual(resting(walk), [Share(2, 3), Share(1, 3)])
        self.assertEqual((walk.whole, walk.rows), (2, [[1, 1], [2, 0]]))


class Point23IsResting(unittest.TestCase):
    walk = Walk(2, [[1, 1], [2, 0]])

    def test_true_rows(self):
        self.assertIs(is_resting(self.walk, [Share(2, 3), Share(1, 3)]), True)
        self.assertIs(is_resting(self.walk, [Share(-40, -60), Share(10 ** 29, 3 * 10 ** 29)]), True)
        self.assertIs(is_resting(Walk(3, [[3]]), [Share(1)]), True)
        self.assertIs(is_resting(Walk(2, [[1, 1], [0, 2]]), [Share(0), Share(1)]), True)

    def test_rows_changed_by_a_little(self):
        little = Share(1, 10 ** 29)
        more = plus(Share(2, 3), little)
        fewer = plus(Share(1, 3), times(Share(-1), little))
        for row in ([more, fewer], [more, Share(1, 3)], [Share(2, 3), fewer], [Share(1, 3), Share(2, 3)]):
            self.assertIs(is_resting(self.walk, row), False)

    def test_rows_that_come_to_another_sum(self):
        for row in ([(0, 1), (0, 1)], [(4, 3), (2, 3)], [(1, 3), (1, 6)], [(-2, 3), (-1, 3)]):
            self.assertIs(is_resting(self.walk, [Share(*pair) for pair in row]), False)

    def test_rows_that_come_to_1_alone(self):
        for row in ([(1, 1), (0, 1)], [(0, 1), (1, 1)], [(1, 2), (1, 2)], [(4, 3), (-1, 3)]):
            self.assertIs(is_resting(self.walk, [Share(*pair) for pair in row]), False)

    def test_a_share_below_0(self):
        self.assertIs(is_resting(still(2), [Share(2), Share(-1)]), False)
        self.assertIs(is_resting(still(3), [Share(1, 2), Share(-1, 2), Share(1)]), False)
        self.assertIs(is_resting(still(2), [Share(1), Share(0)]), True)

    def test_too_long_and_too_short_rows(self):
        good = [Share(2, 3), Share(1, 3)]
        for row in ([], good[:1], [*good, Share(0)], [*good, *good], [Share(1)], good * 250, [Share(0), *good]):
            self.assertIs(is_resting(self.walk, row), False)

    def test_anything_else_in_the_place_of_the_row(self):
        good = [Share(2, 3), Share(1, 3)]
        knot = []
        knot.append(knot)
        for thing in [*OTHER_KINDS, 0, 1, 10 ** 29, tuple(good), {0: good[0], 1: good[1]}, [good], [good, good], self.walk,
                      knot, [knot, knot], "ab", good[0], Fraction(1)]:
            self.assertIs(is_resting(self.walk, thing), False)
            self.assertIs(is_resting(Walk(1, [[1]]), thing), False)

    def test_anything_else_in_the_row(self):
        for thing in [*OTHER_KINDS[:-1], 0, 1, Fraction(1, 3), [Share(1, 3)], (1, 3), "1/3"]:
            with self.subTest(thing=thing):
                self.assertIs(is_resting(self.walk, [Share(2, 3), thing]), False)
                self.assertIs(is_resting(self.walk, [thing, Share(1, 3)]), False)
                self.assertIs(is_resting(self.walk, [thing, thing]), False)
                self.assertIs(is_resting(Walk(1, [[1]]), [thing]), False)
                self.assertIs(is_resting(still(2), [thing, Share(1)]), False)

    def test_several_closed_sets(self):
        # Place 0 leaves for the sets (1, 3) and (2,); (1, 3) rests with 2/3 and 1/3.
        walk = Walk(2, [[0, 1, 1, 0], [0, 1, 0, 1], [0, 0, 2, 0], [0, 2, 0, 0]])
        first = [Share(0), Share(2, 3), Share(0), Share(1, 3)]
        second = [Share(0), Share(0), Share(1), Share(0)]
        self.assertIs(is_resting(walk, first), True)
        self.assertIs(is_resting(walk, second), True)
        for part in (Share(1, 2), Share(1, 7), Share(10 ** 29 - 1, 10 ** 29), Share(0), Share(1)):
            other = plus(Share(1), times(Share(-1), part))
            mixture = [plus(times(part, one), times(other, two)) for one, two in zip(first, second)]
            self.assertEqual(sum_of(mixture), Share(1))
            self.assertIs(is_resting(walk, mixture), True)
            self.assertIs(is_resting(walk, [plus(one, two) for one, two in zip(first, mixture)]), False)
        self.assertIs(is_resting(walk, [Share(0), Share(4, 3), Share(-1), Share(2, 3)]), False)
        self.assertIs(is_resting(walk, [Share(1, 4)] * 4), False)
        self.assertIs(is_resting(walk, [Share(0), Share(1, 3), Share(1, 3), Share(1, 3)]), False)

    def test_by_the_words(self):
        for walk in some_walks(40, 4, 12, 6):
            rows = [[Share(1), Share(0), Share(0), Share(0)], [Share(1, 4)] * 4, [Share(1, 2), Share(0), Share(1, 2), Share(0)]]
            if len(closed_sets(walk)) == 1:
                rows.append(resting(walk))
            for row in rows:
                self.assertIs(is_resting(walk, row), rests(walk, as_fractions(row)))

    def test_what_is_handed_in_stays(self):
        row = [Share(2, 3), Share(1, 3)]
        before = list(row)
        self.assertIs(is_resting(self.walk, row), True)
        self.assertIs(is_resting(self.walk, row), True)
        self.assertEqual(len(row), 2)
        for share, was in zip(row, before):
            self.assertIs(share, was)
        self.assertEqual([str(share) for share in row], ["2/3", "1/3"])
        self.assertEqual((self.walk.whole, self.walk.rows), (2, [[1, 1], [2, 0]]))
        bad = [None, [1]]
        self.assertIs(is_resting(self.walk, bad), False)
        self.assertEqual(bad, [None, [1]])


if __name__ == "__main__":
    unittest.main()

"""Stage 6: orders, the points 6.1, 6.2 and 6.3, and 0.3 as far as orders go."""

import copy
import unittest
from itertools import combinations, permutations, product
from random import Random

from elderdraw.elder import drawn
from elderdraw.errors import NoEnds, NoOrder, NoSign, NotKept
from elderdraw.orders import Order, drawn_between, not_kept
from elderdraw.turns import Turns
from samples import EXAMPLE, OTHER_KINDS, down, knot, ring, some_turns, staying, up

CHAIN = [(x, x + 1) for x in range(31)]


def chain(many):
    """The order in which each place is below the next one."""
    return Order(many, CHAIN[:many - 1])


def cube(spots):
    """The order of places by the spots that are up: y is above x where it has one more."""
    many = 2 ** spots
    return Order(many, [(x, x + 2 ** k) for x in range(many) for k in range(spots) if x // 2 ** k % 2 == 0])


def some_orders(seed, times, many, number):
    """Orders of so many places with as many pairs, whose places are numbered anyhow."""
    chance = Random(seed)
    for _ in range(times):
        places = chance.sample(range(many), many)
        pairs = [chance.choice(list(combinations(places, 2))) for _ in range(number)]
        yield Order(many, pairs)


def below_by_rows(order):
    """The pairs (x, y) such that x is below y, found by going on from each place."""
    told = set()
    for x in range(order.many):
        found = set()
        new = {x}
        while new:
            new = {y for one, y in order.pairs if one in new} - found
            found |= new
        told |= {(x, y) for y in found}
    return told


def not_kept_by_words(turns, order):
    below = below_by_rows(order)
    amiss = []
    for sign, leads in enumerate(turns.maps):
        for x, y in below:
            if leads[x] != leads[y] and (leads[x], leads[y]) not in below:
                amiss.append((sign, x, y))
    return min(amiss) if amiss else None


def keeping(chance, order, signs):
    """Turns that keep an order, each map made at hazard."""
    below = below_by_rows(order)
    maps = []
    while len(maps) < signs:
        leads = tuple(chance.randrange(order.many) for _ in range(order.many))
        if all(leads[x] == leads[y] or (leads[x], leads[y]) in below for x, y in below):
            maps.append(leads)
    return Turns(order.many, maps)


def climbing(chance, many, signs):
    """Turns that keep the chain: no map ever falls."""
    return Turns(many, [tuple(sorted(chance.randrange(many) for _ in range(many))) for _ in range(signs)])


def spot_turns(spots, whole, levels):
    """Turns of the cube in which each sign puts one spot up or down, up the sooner the more others are up."""
    maps = []
    for spot in range(spots):
        for number in range(whole):
            leads = []
            for place in range(2 ** spots):
                others = sum(place // 2 ** k % 2 for k in range(spots) if k != spot)
                rest = place - place // 2 ** spot % 2 * 2 ** spot
                leads.append(rest + 2 ** spot * (number < levels[others]))
            maps.append(tuple(leads))
    return Turns(2 ** spots, maps)


class Point61(unittest.TestCase):
    def refused(self, many, pairs):
        with self.assertRaises(NoOrder):
            Order(many, pairs)

    def test_at_most(self):
        order = Order(4, [(0, 1), (1, 2), (3, 2)])
        told = [[order.at_most(x, y) for y in range(4)] for x in range(4)]
        self.assertEqual(told, [[True, True, True, False], [False, True, True, False], [False, False, True, False],
                                [False, False, True, True]])
        for row in told:
            self.assertEqual({type(one) for one in row}, {bool})

    def test_the_bounds_of_the_places(self):
        for many in range(1, 33):
            order = Order(many, [])
            self.assertEqual(len(order), many)
            self.assertEqual(len(chain(many)), many)
            self.assertTrue(all(order.at_most(x, y) is (x == y) for x in range(many) for y in range(many)))
        for many in (0, -1, -32, 33, 34, 100, 10 ** 29, -10 ** 29):
            self.refused(many, [])
            self.refused(many, [(0, 1)])

    def test_other_kinds_as_the_places(self):
        for thing in [*OTHER_KINDS, [], [1], (), (1,), knot(), EXAMPLE]:
            with self.subTest(thing=thing):
                self.refused(thing, [])
                self.refused(thing, [(0, 1)])
                self.refused(thing, thing)

    def test_no_list_as_the_pairs(self):
        for thing in [*OTHER_KINDS, 0, 1, (), (0, 1), ((0, 1),), {(0, 1)}, {0: 1}, {(0, 1): 1}, "01", EXAMPLE, Order(2, [])]:
            with self.subTest(thing=thing):
                self.refused(2, thing)
                self.refused(1, thing)

    def test_no_pair_at_any_place(self):
        bad = [(), (0,), (0, 1, 2), (0, 1, 1), [0, 1], (0, 0), (1, 1), (0, 3), (3, 0), (-1, 0), (0, -1), (-3, 1), (False, 1),
               (0, True), (True, False), (False, True), (None, 1), (0, None), ("0", "1"), (0, "1"), (0, (1,)), (0, [1]), "01",
               b"01", {0, 1}, {0: 1, 1: 2}, 0, 1, (0, 10 ** 29), (1j, 0), knot(), [knot(), knot()], *OTHER_KINDS]
        good = [(0, 1), (1, 2), (0, 2)]
        for thing in bad:
            with self.subTest(thing=thing):
                self.refused(3, [thing])
                for at in range(4):
                    self.refused(3, [*good[:at], thing, *good[at:]])
                self.refused(3, good * 100 + [thing])
        self.refused(3, knot())

    def test_no_pair_of_one_place(self):
        self.assertEqual(len(Order(1, [])), 1)
        for pair in ((0, 0), (0, 1), (1, 0), (-1, 0), (0, False)):
            self.refused(1, [pair])

    def test_the_last_place_and_the_one_behind(self):
        for many in range(2, 33):
            self.assertIs(Order(many, [(0, many - 1)]).at_most(0, many - 1), True)
            self.assertIs(Order(many, [(many - 1, 0)]).at_most(many - 1, 0), True)
            self.refused(many, [(0, many)])
            self.refused(many, [(many, 0)])
            self.refused(many, [(-1, 0)])

    def test_pairs_by_which_a_place_is_below_itself(self):
        self.refused(2, [(0, 1), (1, 0)])
        self.refused(3, [(0, 1), (1, 2), (2, 0)])
        self.refused(3, [(2, 1), (0, 2), (1, 0)])
        self.refused(4, [(0, 1), (0, 2), (2, 3), (1, 3), (3, 2)])
        self.refused(32, [*CHAIN, (31, 0)])
        self.refused(32, [(31, 30), *CHAIN])
        self.refused(32, [(x, (x + 5) % 32) for x in range(32)])

    def test_pairs_told_twice(self):
        for pairs in ([(0, 1)] * 2, [(0, 1), (1, 2), (0, 1), (0, 2), (1, 2)], CHAIN[:2] * 200):
            order = Order(3, pairs)
            self.assertIs(order.at_most(0, 1), True)
            self.assertIs(order.at_most(1, 0), False)
        self.assertEqual(below_by_rows(Order(3, CHAIN[:2] * 200)), {(0, 1), (0, 2), (1, 2)})

    def test_rows_of_pairs_in_any_order(self):
        for pairs in permutations([(4, 2), (2, 0), (0, 3), (3, 1)]):
            order = Order(5, list(pairs))
            row = [4, 2, 0, 3, 1]
            for x, y in product(range(5), repeat=2):
                self.assertIs(order.at_most(x, y), row.index(x) <= row.index(y))
            self.assertEqual((order.least(), order.greatest()), (4, 1))

    def test_by_rows(self):
        for many in (2, 3, 5, 9, 32):
            for number in (0, 1, many, 3 * many):
                for order in some_orders(many * 100 + number, 10, many, number):
                    below = below_by_rows(order)
                    for x, y in product(range(many), repeat=2):
                        self.assertIs(order.at_most(x, y), x == y or (x, y) in below)
                    least = [x for x in range(many) if all(order.at_most(x, y) for y in range(many))]
                    greatest = [y for y in range(many) if all(order.at_most(x, y) for x in range(many))]
                    self.assertEqual(order.least(), least[0] if least else None)
                    self.assertEqual(order.greatest(), greatest[0] if greatest else None)

    def test_least_and_greatest(self):
        for many in range(1, 33):
            self.assertEqual((chain(many).least(), chain(many).greatest()), (0, many - 1))
            turned = Order(many, [(y, x) for x, y in CHAIN[:many - 1]])
            self.assertEqual((turned.least(), turned.greatest()), (many - 1, 0))
        self.assertEqual((cube(5).least(), cube(5).greatest(), len(cube(5))), (0, 31, 32))
        self.assertEqual((Order(1, []).least(), Order(1, []).greatest()), (0, 0))

    def test_no_least_or_no_greatest(self):
        for pairs, least, greatest in [([], None, None), ([(0, 1)], None, None), ([(0, 1), (0, 2)], 0, None),
                                       ([(0, 2), (1, 2)], None, 2), ([(2, 0), (2, 1)], 2, None), ([(0, 1), (1, 2)], 0, 2)]:
            order = Order(3, pairs)
            self.assertEqual((order.least(), order.greatest()), (least, greatest))
        self.assertEqual((Order(32, CHAIN[1:]).least(), Order(32, CHAIN[1:]).greatest()), (None, None))
        self.assertEqual((Order(32, [*CHAIN[1:], (0, 31)]).least(), Order(32, [*CHAIN[1:], (0, 31)]).greatest()), (None, 31))

    def test_what_is_handed_in_stays_and_changed_behind_changes_nothing(self):
        pairs = [(0, 1), (1, 2)]
        order = Order(3, pairs)
        self.assertEqual(pairs, [(0, 1), (1, 2)])
        pairs.append((2, 0))
        pairs[0] = (1, 0)
        self.assertEqual((order.least(), order.greatest(), order.at_most(0, 2), order.at_most(1, 0)), (0, 2, True, False))
        pairs.clear()
        self.assertEqual((order.least(), order.greatest(), len(order)), (0, 2, 3))
        for many, bad in ((2, [(0, 1), (1, 0)]), (2, [(0, 1), [0, 1]]), (0, [(0, 1)])):
            before = copy.deepcopy(bad)
            self.refused(many, bad)
            self.assertEqual(bad, before)


class Point62(unittest.TestCase):
    def test_all_signs_keep(self):
        self.assertIs(not_kept(Turns(4, [up(4), down(4), staying(4), (2, 2, 2, 2)]), chain(4)), None)
        self.assertIs(not_kept(Turns(32, [up(32), down(32)] * 100), chain(32)), None)
        self.assertIs(not_kept(Turns(3, [(2, 0, 1), (1, 0, 2)]), Order(3, [])), None)
        self.assertIs(not_kept(Turns(1, [(0,)]), Order(1, [])), None)
        self.assertIs(not_kept(Turns(2, [(0, 0), (1, 1), (0, 1)]), chain(2)), None)

    def test_the_least_is_told(self):
        self.assertEqual(not_kept(EXAMPLE, chain(2)), (1, 0, 1))
        self.assertEqual(not_kept(Turns(4, [up(4), ring(4), (3, 2, 1, 0)]), chain(4)), (1, 0, 3))
        self.assertEqual(not_kept(Turns(4, [(3, 2, 1, 0), ring(4)]), chain(4)), (0, 0, 1))
        self.assertEqual(not_kept(Turns(4, [(0, 1, 3, 2)]), chain(4)), (0, 2, 3))
        self.assertEqual(not_kept(Turns(4, [(0, 3, 1, 2)]), chain(4)), (0, 1, 2))
        self.assertEqual(not_kept(Turns(32, [up(32)] * 199 + [ring(32)]), chain(32)), (199, 0, 31))

    def test_places_led_to_places_of_which_neither_is_below(self):
        order = Order(3, [(0, 1), (0, 2)])
        self.assertEqual(not_kept(Turns(3, [(1, 2, 1)]), order), (0, 0, 1))
        self.assertEqual(not_kept(Turns(3, [(1, 1, 2)]), order), (0, 0, 2))
        self.assertIs(not_kept(Turns(3, [(0, 2, 1)]), order), None)

    def test_below_through_places_between_alone(self):
        # The places 0 and 3 stand in no pair together, and (0, 3) is less than (1, 2).
        order = Order(4, [(0, 1), (1, 3), (0, 2), (2, 3)])
        self.assertEqual(not_kept(Turns(4, [(0, 0, 0, 3), (3, 3, 3, 0)]), order), (1, 0, 3))
        self.assertEqual(not_kept(Turns(4, [(1, 1, 1, 2)]), order), (0, 0, 3))
        up_and_down = Order(3, [(2, 0), (0, 1)])
        self.assertEqual(not_kept(Turns(3, [(0, 2, 0)]), up_and_down), (0, 0, 1))
        self.assertEqual(not_kept(Turns(3, [(1, 0, 1)]), up_and_down), (0, 0, 1))
        self.assertEqual(not_kept(Turns(3, [(1, 0, 0)]), up_and_down), (0, 0, 1))
        self.assertEqual(not_kept(Turns(3, [(2, 0, 0)]), up_and_down), (0, 2, 0))

    def test_numbers_of_places_that_are_not_their_order(self):
        turned = Order(4, [(3, 2), (2, 1), (1, 0)])
        self.assertIs(not_kept(Turns(4, [up(4), down(4)]), turned), None)
        self.assertEqual(not_kept(Turns(4, [ring(4)]), turned), (0, 3, 0))
        self.assertEqual(not_kept(Turns(4, [(3, 2, 1, 0)]), turned), (0, 1, 0))

    def test_by_words(self):
        kept = 0
        for many in (2, 3, 4, 6):
            for number in (0, 1, 2, many):
                for order in some_orders(many * 10 + number, 10, many, number):
                    for turns in some_turns(many + number, 10, many, 2):
                        told = not_kept(turns, order)
                        self.assertEqual(told, not_kept_by_words(turns, order))
                        kept += told is None
        self.assertGreater(kept, 50)
        for order in some_orders(62, 3, 32, 40):
            for turns in some_turns(62, 2, 32, 200):
                self.assertEqual(not_kept(turns, order), not_kept_by_words(turns, order))

    def test_orders_of_more_or_fewer_places(self):
        for many in (1, 2, 4, 5, 31, 32):
            for turns in (Turns(3, [ring(3)]), Turns(3, [staying(3)])):
                self.assertRaises(NoOrder, not_kept, turns, chain(many))
                self.assertRaises(NoOrder, not_kept, turns, Order(many, []))

    def test_kinds_and_what_is_handed_in_stays(self):
        turns = Turns(2, [(0, 0), (1, 0)])
        order = chain(2)
        self.assertEqual(not_kept(turns, order), (1, 0, 1))
        told = not_kept(turns, order)
        self.assertIs(type(told), tuple)
        self.assertEqual({type(one) for one in told}, {int})
        self.assertEqual(turns, EXAMPLE)
        self.assertEqual((len(order), order.at_most(0, 1), order.at_most(1, 0)), (2, True, False))


class Point63(unittest.TestCase):
    KEEPS = Turns(3, [up(3), down(3)])
    BREAKS = Turns(3, [up(3), (2, 1, 0)])
    NO_ENDS = [[], [(0, 1), (0, 2)], [(0, 2), (1, 2)]]

    def not_kept(self, kept, *told):
        with self.assertRaises(NotKept) as caught:
            drawn_between(*told)
        self.assertEqual(caught.exception.kept, kept)

    def no_sign(self, sign, *told):
        with self.assertRaises(NoSign) as caught:
            drawn_between(*told)
        self.assertIs(caught.exception.sign, sign)

    def same_as_drawn(self, turns, order, signs):
        told = drawn_between(turns, order, signs)
        self.assertEqual(told, drawn(turns, signs))
        return told

    def test_small_ones(self):
        self.assertEqual(drawn_between(self.KEEPS, chain(3), [0, 0]), (2, 2))
        self.assertEqual(drawn_between(self.KEEPS, chain(3), [0, 1, 1, 0]), (1, 3))
        self.assertIs(drawn_between(self.KEEPS, chain(3), [0, 1, 0, 1]), None)
        self.assertIs(drawn_between(self.KEEPS, chain(3), []), None)
        self.assertEqual(drawn_between(Turns(3, [(1, 1, 1), up(3)]), chain(3), [0]), (1, 1))

    def test_one_place(self):
        turns = Turns(1, [(0,), (0,)])
        for signs in ([], [0], [1, 0], [0] * 300):
            self.assertEqual(drawn_between(turns, Order(1, []), signs), (0, 0))

    def test_each_length_at_which_a_row_can_meet(self):
        turns = Turns(4, [staying(4), (2, 2, 2, 2)])
        for length in range(1, 40):
            for k in range(1, length + 1):
                signs = [0] * (k - 1) + [1] + [0] * (length - k)
                self.assertEqual(drawn_between(turns, chain(4), signs), (2, k))
            self.assertIs(drawn_between(turns, chain(4), [0] * length), None)
        self.assertEqual(drawn_between(turns, chain(4), [0] * 499 + [1]), (2, 500))

    def test_what_drawn_tells_in_chains(self):
        chance = Random(63)
        for many in (2, 3, 5, 32):
            for signs in (1, 2, 20, 200):
                for turns in (climbing(chance, many, signs), Turns(many, [up(many), down(many)] * signs if signs < 200 else
                                                                   [up(many), down(many)])):
                    for length in (0, 1, 2, 3, 7, 8, 40, 300):
                        row = [chance.randrange(len(turns)) for _ in range(length)]
                        self.same_as_drawn(turns, chain(many), row)

    def test_what_drawn_tells_in_other_orders(self):
        chance = Random(64)
        met = 0
        for order in (cube(2), cube(3), Order(4, [(3, 1), (3, 0), (1, 2), (0, 2)]), Order(5, [(0, 1), (0, 2), (0, 3), (1, 4),
                                                                                              (2, 4), (3, 4)])):
            for _ in range(4):
                turns = keeping(chance, order, 3) if len(order) < 8 else spot_turns(3, 4, [0, 2, 4])
                for length in (0, 1, 2, 3, 5, 9, 30):
                    row = [chance.randrange(len(turns)) for _ in range(length)]
                    met += self.same_as_drawn(turns, order, row) is not None
        self.assertGreater(met, 20)

    def test_what_drawn_tells_of_thirty_two_places(self):
        chance = Random(65)
        turns = spot_turns(5, 6, [1, 2, 3, 4, 5])
        told = []
        for length in (0, 10, 30, 100, 300, 500):
            row = [chance.randrange(len(turns)) for _ in range(length)]
            told.append(self.same_as_drawn(turns, cube(5), row))
        self.assertIs(told[0], None)
        self.assertIsNot(told[-1], None)

    def test_orders_of_more_or_fewer_places(self):
        for many in (1, 2, 4, 32):
            for order in (chain(many), Order(many, [])):
                for turns in (self.KEEPS, self.BREAKS):
                    for signs in ([], [0], [None]):
                        self.assertRaises(NoOrder, drawn_between, turns, order, signs)

    def test_not_kept(self):
        self.not_kept((1, 0, 1), self.BREAKS, chain(3), [0])
        self.not_kept((1, 0, 1), self.BREAKS, chain(3), [])
        self.not_kept((1, 0, 1), EXAMPLE, chain(2), [1, 0])
        self.not_kept((0, 0, 2), Turns(3, [ring(3)]), chain(3), [0] * 300)
        for turns in some_turns(66, 20, 4, 3):
            kept = not_kept(turns, cube(2))
            if kept is not None:
                self.not_kept(kept, turns, cube(2), [0, 1, 2])

    def test_no_ends(self):
        for pairs in self.NO_ENDS:
            order = Order(3, pairs)
            for signs in ([], [0], [0] * 300):
                self.assertRaises(NoEnds, drawn_between, Turns(3, [staying(3), (1, 1, 1)]), order, signs)

    def test_no_sign_also_behind_the_meeting(self):
        for thing in [*OTHER_KINDS, 2, -1, 10 ** 29, (0,), [0], knot()]:
            for signs in ([], [0, 0, 0], [1, 0, 1, 0], [1] * 40):
                for at in {0, 1, len(signs)}:
                    row = [*signs[:at], thing, *signs[at:]]
                    self.no_sign(thing, self.KEEPS, chain(3), row)
                    self.no_sign(thing, self.KEEPS, chain(3), [*row, None])
            self.no_sign(thing, Turns(1, [(0,), (0,)]), Order(1, []), [thing, 5])

    def test_two_amiss_at_once(self):
        four = Order(4, [])
        self.assertRaises(NoOrder, drawn_between, self.BREAKS, chain(4), [0])
        self.assertRaises(NoOrder, drawn_between, self.BREAKS, four, [None])
        self.assertRaises(NoOrder, drawn_between, self.KEEPS, four, [0])
        self.assertRaises(NoOrder, drawn_between, self.KEEPS, chain(2), [9])
        self.not_kept((0, 0, 1), self.BREAKS, Order(3, [(0, 1), (0, 2)]), [0])
        self.not_kept((1, 0, 2), self.BREAKS, Order(3, [(0, 2), (1, 2)]), [None])
        self.not_kept((1, 0, 1), self.BREAKS, chain(3), [None, 9])
        for pairs in self.NO_ENDS:
            self.assertRaises(NoEnds, drawn_between, Turns(3, [staying(3)]), Order(3, pairs), [None])
            self.assertRaises(NoEnds, drawn_between, Turns(3, [staying(3)]), Order(3, pairs), [0, 1])

    def test_what_is_handed_in_stays(self):
        turns = Turns(3, [up(3), down(3)])
        order = chain(3)
        signs = [0, 1, 1, 0]
        for _ in range(3):
            told = drawn_between(turns, order, signs)
            self.assertEqual((told, type(told)), ((1, 3), tuple))
        self.assertEqual(signs, [0, 1, 1, 0])
        signs.append(None)
        self.no_sign(None, turns, order, signs)
        self.assertEqual(signs, [0, 1, 1, 0, None])
        self.assertEqual(turns, self.KEEPS)
        self.assertEqual((order.least(), order.greatest(), len(order)), (0, 2, 3))


if __name__ == "__main__":
    unittest.main()

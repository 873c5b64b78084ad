"""Stage 11: webs, the points 11.1, 11.2 and 11.3, and 0.2 and 0.3 as far as webs go."""

import unittest
from itertools import combinations, product
from random import Random

from elderdraw.elder import drawn
from elderdraw.errors import NotKept, NoWeb
from elderdraw.orders import Order, drawn_between, not_kept
from elderdraw.turns import Turns, walk_of
from elderdraw.walks import closed_sets, resting
from elderdraw.webs import Web, order_of, turns_of
from elderdraw.words import meeting, never_meet
from refusals import Refusals
from samples import OTHER_KINDS, fractions, knot, meets

NO_WHOLES = [*OTHER_KINDS, [1], (1,), [], (), knot(), -1, -2, 10 ** 29, -10 ** 29]
ALL_TIES = list(combinations(range(5), 2))


def ways(spots):
    """In which ways the spots can stand, by the numbers of the places: of each spot whether it is up."""
    return [tuple(bool(place // 2 ** spot % 2) for spot in range(spots)) for place in range(2 ** spots)]


def turns_by_spots(spots, ties, whole, levels):
    """The turns of a web, by the words of 11.2."""
    stands = ways(spots)
    maps = []
    for moved in range(spots):
        for u in range(whole):
            leads = []
            for stand in stands:
                c = sum(stand[other] for other in range(spots) if (moved, other) in ties or (other, moved) in ties)
                new = [u < levels[c] if spot == moved else stand[spot] for spot in range(spots)]
                leads.append(stands.index(tuple(new)))
            maps.append(tuple(leads))
    return Turns(2 ** spots, maps)


def some_webs(seed, times, rising):
    """Webs of all sizes, with levels that never fall, or with any."""
    chance = Random(seed)
    for _ in range(times):
        spots = chance.randint(1, 5)
        whole = chance.randint(1, 40 if spots < 4 else 6)
        ties = [tie for tie in combinations(range(spots), 2) if chance.randrange(3)]
        chance.shuffle(ties)
        levels = [chance.randint(0, whole) for _ in range(spots)]
        yield spots, ties, whole, sorted(levels) if rising else levels


class Point111(Refusals):
    def values(self, web):
        return web.spots, web.ties, web.whole, web.levels

    def test_the_values(self):
        for told in [(1, [], 1, [0]), (1, [], 40, [40]), (2, [(0, 1)], 3, [0, 3]), (5, ALL_TIES, 40, [0, 10, 20, 30, 40]),
                     (5, [(3, 4), (0, 2)], 7, [7, 0, 7, 0, 7]), *some_webs(111, 50, False)]:
            self.assertEqual(self.values(Web(*told)), told)

    def test_spots(self):
        for thing in [*NO_WHOLES, 0, 6, 7]:
            self.refused(NoWeb, "spots", Web, thing, [], 1, [0])
        for spots in range(1, 6):
            Web(spots, [], 1, [0] * spots)

    def test_ties(self):
        no_ties = [*OTHER_KINDS, (), ((0, 1),), 1, knot(), {(0, 1)}, [None], [True], [0], [()], [(0,)], [(0, 1, 2)], [[0, 1]],
                   [(1, 0)], [(0, 0)], [(2, 2)], [(0, 3)], [(-1, 0)], [(-2, -1)], [(1, 3)], [(3, 4)], [(0, 10 ** 29)],
                   [(-10 ** 29, 1)], [(0, True)], [(False, 1)], [(False, True)], [(0, "1")], [("0", "1")], [(0, None)],
                   [(None, 0)], [(0, (1,))], [(0, [1])], [(0, 1j)], [knot()], [(0, knot())], [(0, object())], [{0: 1}],
                   [(0, 1), (0, 1)], [(0, 1), (1, 2), (0, 1)], [(0, 1), (1, 0)], [(0, 1), (1, 2), (2, 1)],
                   [(0, 1), (0, 2), (1, 2), (1, 2)], [(0, 1), [1, 2]], [(0, 1), (1, 1)], [(0, 1), (1, 2), None], ["01"],
                   [(0, 1)] * 500, [(0, 1), (1, 3)]]
        for thing in no_ties:
            self.refused(NoWeb, "ties", Web, 3, thing, 1, [0, 0, 0])
        for ties in ([], [(0, 1)], [(1, 2), (0, 1)], [(0, 2), (1, 2), (0, 1)]):
            self.assertEqual(Web(3, ties, 1, [0, 0, 0]).ties, ties)
        self.refused(NoWeb, "ties", Web, 1, [(0, 1)], 1, [0])
        self.refused(NoWeb, "ties", Web, 1, [(0, 0)], 1, [0])

    def test_ties_at_the_bounds_of_the_spots(self):
        for spots in range(2, 6):
            Web(spots, [(spots - 2, spots - 1), (0, spots - 1)][:spots - 1], 1, [0] * spots)
            self.refused(NoWeb, "ties", Web, spots, [(0, spots)], 1, [0] * spots)
            self.refused(NoWeb, "ties", Web, spots, [(spots - 1, spots)], 1, [0] * spots)
            self.refused(NoWeb, "ties", Web, spots, [(-1, spots - 1)], 1, [0] * spots)

    def test_whole(self):
        for thing in [*NO_WHOLES, 0, 41, 42, 200]:
            self.refused(NoWeb, "whole", Web, 2, [(0, 1)], thing, [0, 0])
        for whole in range(1, 41):
            Web(2, [(0, 1)], whole, [0, whole])

    def test_levels(self):
        no_levels = [*OTHER_KINDS, (), (0, 1), 0, 1, knot(), [], [0], [0, 1, 1], [0] * 500, [True, 0], [0, False], [0, None],
                     ["0", 0], [0, "1"], [0, [1]], [(0,), 0], [knot(), 0], [0, 1j], [-1, 0], [0, -1], [4, 0], [0, 4],
                     [0, 10 ** 29], [-10 ** 29, 0], {0: 0, 1: 1}, [0, object()]]
        for thing in no_levels:
            self.refused(NoWeb, "levels", Web, 2, [(0, 1)], 3, thing)
        for levels in product(range(4), repeat=2):
            self.assertEqual(Web(2, [(0, 1)], 3, list(levels)).levels, list(levels))

    def test_as_many_levels_as_spots(self):
        for spots in range(1, 6):
            for many in range(8):
                if many == spots:
                    Web(spots, [], 40, [40] * many)
                else:
                    self.refused(NoWeb, "levels", Web, spots, [], 40, [40] * many)

    def test_of_several_amiss_the_first_is_told(self):
        good = (2, [(0, 1)], 3, [1, 2])
        bad = (None, (), 0, [4, 4])
        names = ("spots", "ties", "whole", "levels")
        for amiss in product((False, True), repeat=4):
            told = [one if wrong else other for wrong, one, other in zip(amiss, bad, good)]
            if any(amiss):
                self.refused(NoWeb, names[amiss.index(True)], Web, *told)
        # Ties of spots that there are not are told also where the levels would have them.
        self.refused(NoWeb, "ties", Web, 2, [(0, 2)], 41, [1, 2, 3])
        self.refused(NoWeb, "whole", Web, 2, [(0, 1)], 41, [41, 41])
        self.refused(NoWeb, "spots", Web, 6, [(1, 0)], 41, [0] * 6)

    def test_the_lists_handed_in_stay_and_changed_behind_change_nothing(self):
        ties, levels = [(0, 1), (1, 2)], [0, 1, 2]
        web = Web(3, ties, 2, levels)
        self.assertEqual((ties, levels), ([(0, 1), (1, 2)], [0, 1, 2]))
        turns = turns_of(web)
        self.assertIsNot(web.ties, ties)
        self.assertIsNot(web.levels, levels)
        ties.clear()
        levels[0] = None
        self.assertEqual(self.values(web), (3, [(0, 1), (1, 2)], 2, [0, 1, 2]))
        self.assertEqual(turns_of(web), turns)
        bad = [(0, 1), (1, 0)]
        self.refused(NoWeb, "ties", Web, 2, bad, 1, [0, 0])
        self.assertEqual(bad, [(0, 1), (1, 0)])


class Point112(unittest.TestCase):
    def test_one_spot_by_hand(self):
        self.assertEqual(turns_of(Web(1, [], 1, [0])), Turns(2, [(0, 0)]))
        self.assertEqual(turns_of(Web(1, [], 1, [1])), Turns(2, [(1, 1)]))
        self.assertEqual(turns_of(Web(1, [], 3, [1])), Turns(2, [(1, 1), (0, 0), (0, 0)]))

    def test_two_spots_by_hand(self):
        # A spot goes where the other one is.
        self.assertEqual(turns_of(Web(2, [(0, 1)], 1, [0, 1])), Turns(4, [(0, 0, 3, 3), (0, 3, 0, 3)]))
        # Without the tie each is looked up at the level of none.
        self.assertEqual(turns_of(Web(2, [], 1, [0, 1])), Turns(4, [(0, 0, 2, 2), (0, 1, 0, 1)]))
        self.assertEqual(turns_of(Web(2, [], 1, [1, 0])), Turns(4, [(1, 1, 3, 3), (2, 3, 2, 3)]))
        # The first sign of a spot puts it up always, the second where the other one is up, the third never.
        self.assertEqual(turns_of(Web(2, [(0, 1)], 3, [1, 2])),
                         Turns(4, [(1, 1, 3, 3), (0, 0, 3, 3), (0, 0, 2, 2), (2, 3, 2, 3), (0, 3, 0, 3), (0, 1, 0, 1)]))

    def test_three_spots_by_hand(self):
        # Spots 0 and 2 are tied to 1 alone, 1 to both: it is up where just one of them is.
        turns = turns_of(Web(3, [(0, 1), (1, 2)], 1, [0, 1, 0]))
        self.assertEqual(turns.maps, [(0, 0, 3, 3, 4, 4, 7, 7), (0, 3, 0, 3, 6, 5, 6, 5), (0, 1, 6, 7, 0, 1, 6, 7)])

    def test_by_spots(self):
        for told in [*some_webs(112, 150, False), (5, ALL_TIES, 40, [0, 10, 20, 30, 40]), (5, [], 40, [3, 9, 27, 1, 40])]:
            self.assertEqual(turns_of(Web(*told)), turns_by_spots(*told))

    def test_how_many_places_and_signs(self):
        for spots in range(1, 6):
            for whole in (1, 2, 39, 40):
                turns = turns_of(Web(spots, [], whole, [0] * spots))
                self.assertEqual((turns.many, len(turns)), (2 ** spots, spots * whole))
                self.assertEqual(len(order_of(Web(spots, [], whole, [0] * spots))), 2 ** spots)

    def test_ties_go_both_ways_in_any_order(self):
        ties = [(0, 1), (1, 3), (0, 4), (2, 3)]
        turns = turns_of(Web(5, ties, 4, [0, 3, 1, 2, 4]))
        self.assertEqual(turns_of(Web(5, ties[::-1], 4, [0, 3, 1, 2, 4])), turns)

    def test_each_sign_moves_its_own_spot_alone(self):
        for told in some_webs(113, 30, False):
            web = Web(*told)
            for sign, leads in enumerate(turns_of(web).maps):
                for place, led in enumerate(leads):
                    self.assertIn(place ^ led, (0, 2 ** (sign // web.whole)))

    def test_a_spot_rests_up_as_often_as_the_signs_put_it_up(self):
        # Without ties all spots rest for themselves.
        web = Web(3, [], 7, [2, 5, 6])
        shares = fractions(resting(walk_of(turns_of(web))))
        for place, stand in enumerate(ways(3)):
            self.assertEqual(shares[place] * 7 ** 3, 2 ** sum(stand) * 5 ** (3 - sum(stand)))

    def test_the_order(self):
        for told in [*some_webs(114, 20, False), *[(spots, [], 1, [0] * spots) for spots in range(1, 6)]]:
            order = order_of(Web(*told))
            stands = ways(told[0])
            self.assertIs(type(order), Order)
            for x, y in product(range(2 ** told[0]), repeat=2):
                self.assertIs(order.at_most(x, y), all(one <= other for one, other in zip(stands[x], stands[y])))
            self.assertEqual((order.least(), order.greatest(), len(order)), (0, 2 ** told[0] - 1, 2 ** told[0]))

    def test_asked_again_the_same(self):
        web = Web(3, [(0, 1), (1, 2)], 2, [0, 1, 2])
        turns_of(web).maps.clear()
        order_of(web)
        self.assertEqual(turns_of(web), turns_by_spots(3, [(0, 1), (1, 2)], 2, [0, 1, 2]))
        self.assertEqual((web.spots, web.ties, web.whole, web.levels), (3, [(0, 1), (1, 2)], 2, [0, 1, 2]))


class Point113(Refusals):
    def test_levels_that_never_fall(self):
        chance = Random(113)
        told_places = 0
        full = [(5, ALL_TIES, 40, [0, 10, 20, 30, 40]), (5, ALL_TIES, 40, [20] * 5), (5, ALL_TIES, 1, [0, 0, 0, 1, 1])]
        for told in [*some_webs(115, 60, True), *full]:
            turns, order = turns_of(Web(*told)), order_of(Web(*told))
            self.assertIs(not_kept(turns, order), None)
            for length in (0, 1, 5, 20, 300):
                signs = [chance.randrange(len(turns)) for _ in range(length)]
                found = drawn(turns, signs)
                self.assertEqual(drawn_between(turns, order, signs), found)
                told_places += found is not None
        self.assertGreater(told_places, 80)

    def test_levels_that_fall(self):
        for spots in range(2, 6):
            for at in range(spots - 1):
                levels = [3] * (at + 1) + [2] * (spots - at - 1)
                web = Web(spots, list(combinations(range(spots), 2)), 5, levels)
                turns, order = turns_of(web), order_of(web)
                kept = not_kept(turns, order)
                with self.assertRaises(NotKept) as caught:
                    drawn_between(turns, order, [0])
                self.assertEqual(caught.exception.kept, kept)
                sign, x, y = kept
                # The sign puts its spot up at the lower place and down at the other one, just where the levels fall.
                self.assertEqual((sign, order.at_most(x, y)), (2, True))
                self.assertFalse(order.at_most(turns.maps[sign][x], turns.maps[sign][y]))

    def test_two_spots_that_shun_one_another(self):
        web = Web(2, [(0, 1)], 1, [1, 0])
        self.assertEqual(turns_of(web).maps, [(1, 1, 2, 2), (2, 1, 2, 1)])
        self.assertEqual(not_kept(turns_of(web), order_of(web)), (0, 0, 2))
        # Each goes against the other: so they rest with one up or with the other one.
        self.assertEqual(never_meet(turns_of(web)), [(0, 3), (1, 2)])
        self.assertEqual(closed_sets(walk_of(turns_of(web))), [(1,), (2,)])

    def test_levels_that_fall_where_no_spot_has_so_many_ties(self):
        web = Web(3, [(0, 1)], 4, [1, 3, 0])
        self.assertIs(not_kept(turns_of(web), order_of(web)), None)
        self.assertEqual(drawn_between(turns_of(web), order_of(web), [0, 4, 8]), drawn(turns_of(web), [0, 4, 8]))

    def test_webs_of_which_some_words_meet(self):
        for told in some_webs(116, 40, True):
            web = Web(*told)
            if web.levels[0] > 0:
                turns = turns_of(web)
                self.assertEqual(never_meet(turns), [])
                self.assertEqual(len(closed_sets(walk_of(turns))), 1)
                if web.spots < 4:
                    word = meeting(turns)
                    self.assertEqual(drawn_between(turns, order_of(web), word[::-1]), (2 ** web.spots - 1, len(word)))

    def test_two_places_of_thirty_two(self):
        # Sign 0 of each spot puts it up, sign 39 down, wherever the others are.
        web = Web(5, ALL_TIES, 40, [1, 10, 20, 30, 39])
        turns, order = turns_of(web), order_of(web)
        self.assertEqual(drawn_between(turns, order, [0, 40, 80, 120, 160]), (31, 5))
        self.assertEqual(drawn_between(turns, order, [39, 79, 119, 159, 199]), (0, 5))
        self.assertEqual(drawn_between(turns, order, [0, 79, 0, 80, 159, 160, 5]), (21, 6))
        self.assertTrue(meets([turns.maps[0][31], turns.maps[0][30]]))


if __name__ == "__main__":
    unittest.main()

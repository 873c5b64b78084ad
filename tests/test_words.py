"""Stage 4: words, the points 4.1, 4.2, 4.3 and 4.4, and 0.2 and 0.3 as far as words go."""

import unittest
from itertools import combinations
from random import Random

from elderdraw.errors import NoSign, TooMany
from elderdraw.turns import Turns
from elderdraw.words import map_of, maps_of, meeting, never_meet
from samples import (EXAMPLE, OTHER_KINDS, all_turns, down, found_by_words, knot, led, map_by_places, ring, side_by_side,
                     some_turns, staying, up, with_sign, words_of)

NO_SIGNS = [*OTHER_KINDS, -1, -2, 10 ** 29, -10 ** 29, (), (0,), [], [0], knot(), EXAMPLE, 10 ** 60]


def small_turns():
    """All turns of few places and signs, and some larger ones."""
    yield from all_turns(1, 2)
    yield from all_turns(2, 1)
    yield from all_turns(2, 2)
    yield from all_turns(2, 3)
    yield from all_turns(3, 1)
    yield from some_turns(41, 60, 3, 2)
    yield from some_turns(42, 10, 3, 3)


def maps_by_words(turns):
    return found_by_words(turns, lambda leads: leads)


def sets_by_words(turns):
    """The sets of places that words lead all places to, found by going on from each set."""
    found = {frozenset(range(turns.many))}
    while True:
        more = found | {frozenset(leads[place] for place in places) for places in found for leads in turns.maps}
        if more == found:
            return found
        found = more


def pairs_by_words(turns):
    """The pairs whose two places never come to one, found by going on from each pair."""
    told = []
    for x, y in combinations(range(turns.many), 2):
        found = {(x, y)}
        while True:
            more = found | {(leads[one], leads[other]) for one, other in found for leads in turns.maps}
            if more == found:
                break
            found = more
        if all(one != other for one, other in found):
            told.append((x, y))
    return told


class Signs(unittest.TestCase):
    def no_sign(self, sign, deed, *told):
        with self.assertRaises(NoSign) as caught:
            deed(*told)
        self.assertIs(caught.exception.sign, sign)


class Point41(Signs):
    def test_words_of_the_example(self):
        wanted = {(): (0, 1), (0,): (0, 0), (1,): (1, 0), (0, 1): (1, 1), (1, 0): (0, 0), (1, 1): (0, 1), (0, 1, 1): (0, 0)}
        for word, leads in wanted.items():
            self.assertEqual(map_of(EXAMPLE, list(word)), leads)

    def test_the_first_sign_comes_first(self):
        turns = Turns(3, [(1, 2, 0), (0, 0, 2)])
        self.assertEqual(map_of(turns, [0, 1]), (0, 2, 0))
        self.assertEqual(map_of(turns, [1, 0]), (1, 1, 0))

    def test_the_word_without_signs(self):
        for many in range(1, 33):
            told = map_of(Turns(many, [ring(many)]), [])
            self.assertEqual(told, staying(many))
            self.assertIs(type(told), tuple)

    def test_by_places(self):
        chance = Random(4)
        for many, signs in ((1, 1), (2, 2), (5, 3), (32, 1), (32, 200)):
            for turns in some_turns(many, 3, many, signs):
                for length in (0, 1, 2, 3, 10, 200, 500):
                    word = [chance.randrange(signs) for _ in range(length)]
                    self.assertEqual(map_of(turns, word), map_by_places(turns, word))

    def test_long_words_that_never_meet(self):
        turns = Turns(32, [ring(32), tuple(reversed(range(32)))])
        for length in (31, 32, 33, 499, 500):
            self.assertEqual(map_of(turns, [0] * length), tuple((place + length) % 32 for place in range(32)))

    def test_what_is_no_sign_at_any_place(self):
        for thing in [*NO_SIGNS, 2, 3, 200]:
            for length in (0, 1, 4, 300):
                for at in {0, length // 2, length}:
                    word = [1, 0] * (length // 2) + [0] * (length % 2)
                    word.insert(at, thing)
                    self.no_sign(thing, map_of, EXAMPLE, word)

    def test_the_bounds_of_the_signs(self):
        for signs in (1, 2, 30, 199, 200):
            turns = Turns(1, [(0,)] * signs)
            self.assertEqual(map_of(turns, [0, signs - 1]), (0,))
            for thing in (signs, signs + 1, -1, -signs, 10 ** 29):
                self.no_sign(thing, map_of, turns, [thing])
                self.no_sign(thing, map_of, turns, [0, signs - 1, thing])

    def test_the_first_of_two_is_told(self):
        things = [2, -1, True, None, "0", (0,), [0], 1j]
        for one in things:
            for other in things:
                self.no_sign(one, map_of, EXAMPLE, [one, other])
                self.no_sign(one, map_of, EXAMPLE, [0, one, 1, other, 0])

    def test_what_is_handed_in_stays(self):
        word = [1, 0, 1]
        self.assertEqual(map_of(EXAMPLE, word), (1, 1))
        self.assertEqual(map_of(EXAMPLE, word), (1, 1))
        self.assertEqual(word, [1, 0, 1])
        word.append(None)
        self.no_sign(None, map_of, EXAMPLE, word)
        self.assertEqual(word, [1, 0, 1, None])
        self.assertEqual(EXAMPLE, Turns(2, [(0, 0), (1, 0)]))


class Point42(unittest.TestCase):
    # Just 300 maps and 301: rings of lengths with nothing in common, and rings to which one place leads.
    ROUND = tuple([1, 2, 0, 4, 5, 6, 3] + [7 + (k + 1) % 25 for k in range(25)])
    FORTY_THREE = [1, 0, 3, 4, 2, 6, 7, 8, 9, 10, 11, 5, 5]

    def test_the_example(self):
        self.assertEqual(maps_of(EXAMPLE), [(0, 1), (0, 0), (1, 0), (1, 1)])

    def test_the_order_in_which_they_are_found(self):
        self.assertEqual(maps_of(Turns(3, [ring(3)])), [(0, 1, 2), (1, 2, 0), (2, 0, 1)])
        self.assertEqual(maps_of(Turns(3, [(1, 1, 1), (0, 1, 2), (2, 2, 0)])),
                         [(0, 1, 2), (1, 1, 1), (2, 2, 0), (2, 2, 2), (0, 0, 2), (0, 0, 0)])
        self.assertEqual(maps_of(Turns(4, [(3, 3, 3, 3), down(4)])),
                         [(0, 1, 2, 3), (3, 3, 3, 3), (0, 0, 1, 2), (2, 2, 2, 2), (0, 0, 0, 1), (1, 1, 1, 1), (0, 0, 0, 0)])

    def test_by_words(self):
        for turns in small_turns():
            self.assertEqual(maps_of(turns), maps_by_words(turns))

    def test_one_place(self):
        self.assertEqual(maps_of(Turns(1, [(0,)])), [(0,)])
        self.assertEqual(maps_of(Turns(1, [(0,)] * 200)), [(0,)])

    def test_signs_that_have_one_map_or_do_nothing(self):
        self.assertEqual(maps_of(Turns(32, [staying(32)] * 200)), [staying(32)])
        self.assertEqual(maps_of(Turns(2, [(1, 0)] * 100 + [(0, 0)] * 100)), [(0, 1), (1, 0), (0, 0), (1, 1)])

    def test_all_maps_of_four_places(self):
        turns = Turns(4, [ring(4), (1, 0, 2, 3), (0, 0, 2, 3)])
        told = maps_of(turns)
        self.assertEqual((len(told), len(set(told)), told[0]), (256, 256, staying(4)))

    def test_just_three_hundred(self):
        turns = Turns(32, [self.ROUND])
        told = maps_of(turns)
        self.assertEqual(told, [map_by_places(turns, [0] * k) for k in range(300)])
        self.assertEqual((len(set(told)), map_by_places(turns, [0] * 300)), (300, staying(32)))

    def test_just_three_hundred_of_many_signs(self):
        powers = maps_of(Turns(32, [self.ROUND]))
        chance = Random(300)
        maps = chance.sample(powers[1:], 150) + [self.ROUND] * 50
        told = maps_of(Turns(32, maps))
        self.assertEqual((sorted(told), told[0], told[1:51]), (sorted(powers), staying(32), maps[:50]))

    def test_three_hundred_and_of_parts(self):
        # Parts that stand side by side have as many maps as the product of theirs.
        for lengths, maps in (((3, 4, 5, 5), 300), ((4, 7, 10), 280), ((10, 10, 3), 300), ((7, 6, 7), 294)):
            told = maps_of(side_by_side([[ring(length)] for length in lengths]))
            self.assertEqual((len(told), len(set(told))), (maps, maps))

    def test_three_hundred_and_one(self):
        self.assertEqual(len(maps_of(Turns(13, [tuple(self.FORTY_THREE)]))), 43)
        turns = side_by_side([[tuple(self.FORTY_THREE)], [ring(7)]])
        for signs in (turns, Turns(20, turns.maps[::-1]), with_sign(turns, staying(20))):
            self.assertRaises(TooMany, maps_of, signs)
        self.assertEqual(len(maps_of(side_by_side([[tuple(self.FORTY_THREE)], [ring(6)]]))), 258)

    def test_many_more(self):
        for turns in (Turns(5, [ring(5), (1, 0, 2, 3, 4), (0, 0, 2, 3, 4)]), Turns(32, [ring(32), (1, 0, *range(2, 32))]),
                      *some_turns(9, 3, 32, 200)):
            self.assertRaises(TooMany, maps_of, turns)
            self.assertRaises(TooMany, maps_of, turns)

    def test_the_list_told_is_a_new_one(self):
        turns = Turns(2, [(0, 0), (1, 0)])
        told = maps_of(turns)
        self.assertIs(type(told), list)
        self.assertEqual([type(leads) for leads in told], [tuple] * 4)
        told.clear()
        self.assertEqual(maps_of(turns), [(0, 1), (0, 0), (1, 0), (1, 1)])
        maps_of(turns).append(None)
        self.assertEqual(len(maps_of(turns)), 4)
        self.assertEqual(turns, EXAMPLE)
        self.assertIsNot(maps_of(turns), turns.maps)


class Point43(unittest.TestCase):
    def test_turns_that_never_meet_at_all(self):
        for many in (2, 3, 32):
            pairs = list(combinations(range(many), 2))
            self.assertEqual(never_meet(Turns(many, [staying(many)])), pairs)
            self.assertEqual(never_meet(Turns(many, [ring(many), tuple(reversed(range(many)))])), pairs)

    def test_turns_that_meet(self):
        for turns in [EXAMPLE, Turns(2, [(1, 1)]), Turns(32, [down(32)]), Turns(32, [up(32), down(32)])]:
            self.assertEqual(never_meet(turns), [])

    def test_turns_that_never_meet_in_part(self):
        self.assertEqual(never_meet(Turns(4, [(0, 0, 2, 2)])), [(0, 2), (0, 3), (1, 2), (1, 3)])
        self.assertEqual(never_meet(Turns(4, [(0, 1, 0, 1)])), [(0, 1), (0, 3), (1, 2), (2, 3)])
        self.assertEqual(never_meet(Turns(3, [(1, 0, 0)])), [(0, 1), (0, 2)])
        self.assertEqual(never_meet(Turns(3, [(1, 2, 0), (1, 1, 0)])), [])
        self.assertEqual(never_meet(side_by_side([[down(2)], [down(2)]])), [(0, 2), (0, 3), (1, 2), (1, 3)])

    def test_one_place(self):
        self.assertEqual(never_meet(Turns(1, [(0,)] * 3)), [])

    def test_pairs_that_meet_after_many_signs_alone(self):
        # Round thirty-one places, with one sign that leads but one place aside.
        turns = Turns(32, [ring(32), (1, *range(1, 32))])
        self.assertEqual(never_meet(turns), [])
        still = Turns(31, [ring(31)])
        self.assertEqual(len(never_meet(still)), 31 * 15)

    def test_by_words(self):
        for turns in [*small_turns(), *some_turns(43, 40, 5, 1), *some_turns(44, 40, 6, 2), *some_turns(45, 20, 12, 1)]:
            told = never_meet(turns)
            self.assertEqual(told, pairs_by_words(turns))
            self.assertEqual(told, sorted(told))
        for turns in some_turns(46, 3, 32, 1):
            self.assertEqual(never_meet(turns), pairs_by_words(turns))

    def test_each_sign_leads_such_a_pair_to_one(self):
        for turns in [*some_turns(47, 20, 8, 1), side_by_side([[ring(5), down(5)], [up(6)], [ring(7)]])]:
            told = never_meet(turns)
            for x, y in told:
                for leads in turns.maps:
                    self.assertIn(tuple(sorted((leads[x], leads[y]))), told)

    def test_no_bound_of_maps_or_sets(self):
        many = Turns(32, [ring(32), (1, 0, *range(2, 32))])
        self.assertEqual(len(never_meet(many)), 32 * 31 // 2)
        for turns in some_turns(48, 3, 32, 200):
            self.assertEqual(never_meet(turns), [])

    def test_the_list_told_is_a_new_one(self):
        turns = Turns(2, [(0, 1)])
        told = never_meet(turns)
        self.assertEqual((type(told), type(told[0])), (list, tuple))
        told.clear()
        self.assertEqual(never_meet(turns), [(0, 1)])
        self.assertIsNot(never_meet(turns), never_meet(turns))
        never_meet(EXAMPLE).append((0, 1))
        self.assertEqual(never_meet(EXAMPLE), [])


class Point44(unittest.TestCase):
    def by_words(self, turns, longest):
        for length in range(longest + 1):
            for word in words_of(len(turns), length):
                if len(set(map_by_places(turns, word))) == 1:
                    return word
        return None

    def test_the_example(self):
        self.assertEqual(meeting(EXAMPLE), [0])

    def test_the_least_of_several_shortest(self):
        self.assertEqual(meeting(Turns(2, [(1, 0), (1, 1), (0, 0)])), [1])
        self.assertEqual(meeting(Turns(3, [(0, 1, 1), (0, 0, 2), (0, 0, 2)])), [0, 1])
        self.assertEqual(meeting(Turns(3, [(0, 0, 2), (0, 0, 2), (0, 1, 1)])), [2, 0])
        self.assertEqual(meeting(Turns(20, [up(20), down(20)])), [0] * 19)
        self.assertEqual(meeting(Turns(20, [staying(20), down(20), up(20)])), [1] * 19)
        self.assertEqual(meeting(Turns(3, [(0, 0, 1), (1, 1, 1)])), [1])

    def test_long_shortest_words(self):
        # One sign goes round, the other leads one place aside: (many - 1) ** 2 signs are needed.
        for many in (2, 3, 4, 5, 6, 7):
            turns = Turns(many, [ring(many), (1, *range(1, many))])
            word = meeting(turns)
            self.assertEqual(len(word), (many - 1) ** 2)
            self.assertEqual(len(set(map_by_places(turns, word))), 1)

    def test_one_place(self):
        self.assertEqual(meeting(Turns(1, [(0,)])), [])
        self.assertEqual(meeting(Turns(1, [(0,)] * 200)), [])

    def test_none(self):
        for turns in [Turns(2, [(0, 1)]), Turns(32, [ring(32)]), Turns(4, [(0, 0, 2, 2)]), side_by_side([[down(2)], [up(3)]])]:
            self.assertIs(meeting(turns), None)

    def test_by_words(self):
        for turns in [*small_turns(), *some_turns(51, 30, 4, 2)]:
            self.assertEqual(meeting(turns), self.by_words(turns, (turns.many - 1) ** 2))

    def test_some_word_meets_where_no_pair_never_does(self):
        for turns in [*small_turns(), *some_turns(52, 50, 5, 2)]:
            self.assertIs(meeting(turns) is None, never_meet(turns) != [])

    def numbered(self, sets, turns):
        self.assertEqual(len(sets_by_words(turns)), sets)
        return turns

    def test_just_three_hundred_sets(self):
        never = self.numbered(300, side_by_side([[down(5)], [down(6)], [down(10)]]))
        self.assertIs(meeting(never), None)
        chains = side_by_side([[down(4)], [down(6)], [down(12)]])
        met = self.numbered(300, with_sign(chains, [21] * 22))
        self.assertEqual(meeting(met), [3])
        early = self.numbered(300, Turns(22, [(21,) * 22, *chains.maps]))
        self.assertEqual(meeting(early), [0])
        # All rows of places side by side of twenty-four are such sets.
        self.assertEqual(meeting(self.numbered(300, Turns(24, [up(24), down(24)]))), [0] * 23)

    def test_three_hundred_and_one(self):
        chain = [down(22), (21,) * 22]
        never = self.numbered(301, side_by_side([chain, [down(7)]]))
        self.assertRaises(TooMany, meeting, never)
        chains = side_by_side([[down(5)], [down(6)], [down(10)]])
        met = self.numbered(301, with_sign(chains, [0] * 21))
        self.assertRaises(TooMany, meeting, met)
        early = self.numbered(301, Turns(21, [(0,) * 21, *chains.maps]))
        self.assertRaises(TooMany, meeting, early)
        self.assertRaises(TooMany, meeting, early)

    def test_many_more_whether_a_word_meets_or_not(self):
        round_about = [ring(12), (1, *range(1, 12))]
        for turns in (Turns(25, [up(25), down(25)]), Turns(32, [up(32), down(32)]), Turns(12, round_about),
                      Turns(12, [(0,) * 12, *round_about]), side_by_side([round_about, [ring(2)]]),
                      *some_turns(53, 3, 32, 200)):
            self.assertRaises(TooMany, meeting, turns)

    def test_many_maps_but_few_sets(self):
        turns = Turns(9, [ring(9), (1, 0, *range(2, 9)), (0,) * 9])
        self.assertRaises(TooMany, maps_of, turns)
        self.assertEqual(meeting(turns), [2])

    def test_the_list_told_is_a_new_one(self):
        turns = Turns(3, [(0, 1, 1), (0, 0, 2)])
        told = meeting(turns)
        self.assertIs(type(told), list)
        self.assertEqual(map_of(turns, told), (0, 0, 0))
        told.reverse()
        told.append(7)
        self.assertEqual(meeting(turns), [0, 1])
        self.assertIsNot(meeting(turns), meeting(turns))
        one = Turns(1, [(0,)])
        meeting(one).append(0)
        self.assertEqual(meeting(one), [])

    def test_what_has_met_has_met_for_ever(self):
        chance = Random(54)
        for turns in some_turns(55, 20, 4, 3):
            word = meeting(turns)
            if word is not None:
                ahead = [chance.randrange(3) for _ in range(20)]
                self.assertEqual(len(set(map_of(turns, ahead + word))), 1)
                self.assertEqual(map_of(turns, ahead + word), map_of(turns, word))
                self.assertEqual(len(set(map_of(turns, word + ahead))), 1)
                self.assertEqual(led(turns, word + ahead, 0), map_of(turns, word + ahead)[3])


if __name__ == "__main__":
    unittest.main()

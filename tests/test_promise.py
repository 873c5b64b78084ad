"""What the document promises over the whole program: the points 0.2 and 0.3."""

import unittest
from fractions import Fraction
from itertools import product

from elderdraw.counts import counts, map_counts
from elderdraw.desk import Desk
from elderdraw.elder import Draw, drawn, drawn_doubled
from elderdraw.errors import DrawError, NeverMeets, NotOne
from elderdraw.once import blocks, once_shares, read_once
from elderdraw.orders import Order, drawn_between, not_kept
from elderdraw.shares import Share, less, minus, over, plus, sum_of, times
from elderdraw.tables import draw_shares, draw_table, wait_table
from elderdraw.texts import read, show
from elderdraw.turns import Turns, go_as, plain_turns, walk_of
from elderdraw.walks import Walk, closed_sets, is_resting, resting
from elderdraw.webs import Web, order_of, turns_of
from elderdraw.words import map_of, maps_of, meeting, never_meet
from elderdraw.wrong import forward_shares, forward_table, met_forward, tried_shares
from samples import (EXAMPLE, THREE_HUNDRED, all_turns, down, fractions, resets, ring, side_by_side, some_turns,
                     turns_that_meet, up, words_of)

SIDES = side_by_side([[down(3)], [(1, 0)], [up(2)]])
LINE = Order(3, [(0, 1), (1, 2)])


def plain(thing):
    """A thing as tuples of numbers and texts, by all that it tells."""
    if isinstance(thing, (list, tuple)):
        return type(thing).__name__, tuple(plain(one) for one in thing)
    if isinstance(thing, Share):
        return "share", thing.top, thing.bottom, str(thing)
    if isinstance(thing, Turns):
        return "turns", thing.many, plain(thing.maps), len(thing)
    if isinstance(thing, Walk):
        shares = [thing.share(x, y) for x, y in product(range(len(thing)), repeat=2)]
        return "walk", thing.whole, plain(thing.rows), plain(shares)
    if isinstance(thing, Order):
        many = len(thing)
        return "order", many, tuple(thing.at_most(x, y) for x in range(many) for y in range(many)), thing.least(), thing.greatest()
    if isinstance(thing, Web):
        return "web", thing.spots, plain(thing.ties), thing.whole, plain(thing.levels)
    assert thing is None or isinstance(thing, (bool, int, str)), thing
    return type(thing).__name__, thing


def lists_in(thing):
    """All lists that stand in a thing that is told, itself among them."""
    if isinstance(thing, list):
        yield thing
    if isinstance(thing, (list, tuple)):
        for one in thing:
            yield from lists_in(one)


def asked():
    """Each function of the interface, with things to ask it."""
    walk = Walk(6, [[1, 2, 3], [6, 0, 0], [0, 6, 0]])
    apart = Walk(2, [[2, 0], [0, 2]])
    web = Web(3, [(0, 1), (1, 2)], 3, [1, 2, 3])
    shun = Web(2, [(0, 1)], 1, [1, 0])
    half, third = Share(1, 2), Share(-1, 3)
    for deed in (plus, minus, times, over, less):
        yield deed, half, third
    yield over, half, Share(0)
    yield sum_of, [half, third, half]
    for one in (walk, apart):
        yield closed_sets, one
        yield resting, one
        yield is_resting, one, [half, half, Share(0)][:len(one)]
        yield plain_turns, one
    yield go_as, EXAMPLE, apart
    for turns in (EXAMPLE, SIDES, Turns(1, [(0,)]), THREE_HUNDRED, turns_of(web), Turns(3, [(2, 1, 0)])):
        word = [0, len(turns) - 1, 0, 0]
        for deed in (walk_of, maps_of, never_meet, meeting, draw_table, draw_shares, wait_table, forward_table, forward_shares, show):
            yield deed, turns
        for deed in (map_of, drawn, drawn_doubled, met_forward):
            yield deed, turns, word
            yield deed, turns, [*word, None]
        for deed in (counts, map_counts, tried_shares, blocks, once_shares):
            for number in (1, 2, 12):
                yield deed, turns, number
        yield read_once, turns, 1, word
        yield not_kept, turns, LINE
        yield drawn_between, turns, LINE, word
        yield read, show(turns)
    for one in (web, shun):
        yield turns_of, one
        yield order_of, one
        yield not_kept, turns_of(one), order_of(one)
        yield drawn_between, turns_of(one), order_of(one), [0, 1, 0]
    yield read, "2 / 0 2"
    # What makes shares, walks, turns, orders and webs is asked as well.
    yield Share, 6, -4
    yield Walk, 2, [[1, 1], [2, 0]]
    yield Turns, 2, [(0, 0), (1, 0)]
    yield Order, 3, [(0, 1), (1, 2)]
    yield Web, 2, [(0, 1)], 3, [1, 2]
    yield Walk, 2, [[1, 1], [2, 1]]
    yield Web, 2, [(0, 1)], 3, [1, 4]


def answer(deed, told):
    """What the deed tells, or how it is refused: the thing itself, and that as plain values."""
    try:
        thing = deed(*told)
    except DrawError as refusal:
        return None, (type(refusal).__name__, plain(list(vars(refusal).values())))
    return thing, plain(thing)


class Point02(unittest.TestCase):
    def small_turns(self):
        yield from turns_that_meet()
        yield from all_turns(2, 1)
        yield from some_turns(21, 30, 4, 1)
        yield from some_turns(22, 30, 5, 2)
        yield from (SIDES, THREE_HUNDRED, Turns(4, [ring(4), *resets(4, (0, 2))]))

    def test_no_place_is_drawn_too_often_and_too_seldom_only_by_so_many_as_have_not_met(self):
        for turns in turns_that_meet():
            shares = fractions(resting(walk_of(turns)))
            for many in (0, 1, 3, 5, 30):
                places, none = counts(turns, many)
                for number, share in zip(places, shares):
                    self.assertTrue(number <= share * len(turns) ** many <= number + none)
            many = 5 if len(turns) < 4 else 3
            told = [drawn(turns, signs) for signs in words_of(len(turns), many)]
            for place, share in enumerate(shares):
                number = sum(one is not None and one[0] == place for one in told)
                self.assertTrue(number <= share * len(told) <= number + told.count(None))

    def test_the_shares_of_the_table_and_of_reading_once_are_the_resting_shares(self):
        for turns in [*turns_that_meet(), THREE_HUNDRED]:
            rest = resting(walk_of(turns))
            self.assertTrue(is_resting(walk_of(turns), draw_shares(turns)))
            self.assertEqual(draw_shares(turns), rest)
            for long in (1, 4, 12):
                if sum(blocks(turns, long)[0]) > 0:
                    self.assertEqual(once_shares(turns, long), rest)

    def test_how_wrong_the_shares_come_out_otherwise(self):
        # Forward the first meeting of all words of so many signs bounds the shares as counts do for the draw.
        wrong = 0
        for turns in turns_that_meet():
            try:
                shares = forward_shares(turns)
            except DrawError:
                continue
            many = 5 if len(turns) < 4 else 3
            told = [met_forward(turns, word) for word in words_of(len(turns), many)]
            for place, share in enumerate(fractions(shares)):
                number = sum(one is not None and one[0] == place for one in told)
                self.assertTrue(number <= share * len(told) <= number + told.count(None))
            wrong += not is_resting(walk_of(turns), shares)
            back = [drawn(turns, word) for word in words_of(len(turns), many)]
            met = [one[0] for one in back if one is not None]
            if met:
                wanted = [Fraction(met.count(place), len(met)) for place in range(turns.many)]
                self.assertEqual(fractions(tried_shares(turns, many)), wanted)
        self.assertGreater(wrong, 30)

    def test_pairs_that_never_meet_or_one_set_in_which_the_walk_rests(self):
        apart = 0
        for turns in self.small_turns():
            sets = closed_sets(walk_of(turns))
            if never_meet(turns):
                self.assertEqual(sum(counts(turns, 20)[0]), 0)
                for deed in (draw_shares, forward_shares):
                    with self.assertRaises(NeverMeets) as caught:
                        deed(turns)
                    self.assertEqual(caught.exception.pair, never_meet(turns)[0])
            else:
                self.assertEqual(len(sets), 1)
            if len(sets) > 1:
                apart += 1
                self.assertNotEqual(never_meet(turns), [])
                with self.assertRaises(NotOne) as caught:
                    resting(walk_of(turns))
                self.assertEqual(caught.exception.sets, sets)
        self.assertGreater(apart, 5)

    def test_webs_rest_as_they_are_drawn(self):
        for told in ((1, [], 5, [2]), (2, [(0, 1)], 3, [1, 2]), (2, [(0, 1)], 4, [3, 4]), (3, [(0, 1), (1, 2)], 2, [1, 1, 2])):
            turns = turns_of(Web(*told))
            self.assertEqual(draw_shares(turns), resting(walk_of(turns)))
            self.assertEqual(once_shares(turns, 6), draw_shares(turns))
            self.assertEqual(draw_shares(turns), draw_shares(read(show(turns))))

    def test_plain_turns_of_a_walk_draw_as_it_rests(self):
        walk = Walk(4, [[1, 1, 2], [2, 2, 0], [0, 3, 1]])
        turns = plain_turns(walk)
        self.assertTrue(go_as(turns, walk))
        self.assertEqual(draw_shares(turns), resting(walk))


class Point03(unittest.TestCase):
    def test_asked_again_the_same_is_told_also_where_the_lists_told_first_were_changed(self):
        seen = set()
        for deed, *told in asked():
            handed = plain(told)
            thing, wanted = answer(deed, told)
            seen.add(deed.__name__)
            if deed not in (Share, Walk, Turns, Order, Web):
                lists = list(lists_in(thing))
                self.assertEqual(len({id(one) for one in lists}), len(lists), deed)
                for one in lists:
                    one.reverse()
                    one.append("spoilt")
            self.assertEqual(plain(told), handed, deed)
            self.assertEqual(answer(deed, told)[1], wanted, deed)
            self.assertEqual(plain(told), handed, deed)
        self.assertEqual(len(seen), 41)

    def test_no_list_told_is_one_that_was_handed_in_or_is_told_again(self):
        for deed, *told in asked():
            held = {id(one) for one in lists_in(told)}
            for thing in told:
                if isinstance(thing, Turns):
                    held.add(id(thing.maps))
                if isinstance(thing, Walk):
                    held |= {id(thing.rows), *[id(row) for row in thing.rows]}
            first, _ = answer(deed, told)
            again, _ = answer(deed, told)
            for one in (first, again):
                self.assertFalse(held & {id(part) for part in lists_in(one)}, deed)
            self.assertFalse({id(part) for part in lists_in(first)} & {id(part) for part in lists_in(again)}, deed)

    def test_what_is_changed_behind_changes_nothing(self):
        rows, maps, pairs, ties, levels = [[1, 1], [2, 0]], [(0, 0), (1, 0)], [(0, 1), (1, 2)], [(0, 1)], [1, 2]
        made = [Walk(2, rows), Turns(2, maps), Order(3, pairs), Web(2, ties, 3, levels)]
        draw = Draw(made[1])
        wanted = [plain(thing) for thing in made]
        rows[0][0] = 5
        for changed in (rows, maps, pairs, ties, levels):
            changed.clear()
        self.assertEqual([plain(thing) for thing in made], wanted)
        self.assertEqual((draw.elder(1), draw.elder(0), draw.looked()), (None, 1, (1, 1)))

    def test_two_of_all_that_is_told_are_made_apart(self):
        one, other = Draw(EXAMPLE), Draw(EXAMPLE)
        one.elder(0)
        self.assertEqual((one.place(), other.place(), len(one), len(other)), (0, None, 1, 0))
        desks = [Desk(), Desk()]
        desks[0].say("turns a 1 / 0")
        self.assertEqual([desk.say("names") for desk in desks], ["a", "-"])

    def test_what_was_told_may_be_handed_in_again(self):
        for turns in (EXAMPLE, THREE_HUNDRED, Turns(24, [up(24), down(24)])):
            self.assertEqual(read(show(turns)), turns)
            word = meeting(turns)
            self.assertEqual(map_of(turns, word)[0], met_forward(turns, word)[0])
            self.assertEqual(drawn(turns, word[::-1])[0], map_of(turns, word)[0])
            walk = walk_of(turns)
            self.assertTrue(is_resting(walk, resting(walk)))
            self.assertEqual(sum_of(resting(walk)), Share(1))


if __name__ == "__main__":
    unittest.main()

"""Stage 3: turns, the points 3.1, 3.2 and 3.3, and 0.3 as far as turns go."""

import copy
import unittest
from random import Random

from elderdraw.errors import DrawError, NoTurns, TooMany
from elderdraw.shares import Share
from elderdraw.turns import Turns, go_as, plain_turns, walk_of
from elderdraw.walks import Walk, closed_sets
from samples import EXAMPLE, OTHER_KINDS, all_turns, down, knot, ring, some_turns, staying, up


def some_walk(chance, many, whole):
    """A walk of some places whose rows have 0 at many of them."""
    rows = []
    for _ in range(many):
        row = [0] * many
        places = [chance.randrange(many) for _ in range(chance.randrange(1, 4))]
        for _ in range(whole):
            row[chance.choice(places)] += 1
        rows.append(row)
    return Walk(whole, rows)


class Refused(unittest.TestCase):
    def refused(self, part, many, maps):
        with self.assertRaises(NoTurns) as caught:
            Turns(many, maps)
        self.assertEqual(caught.exception.part, part)


class Point31Made(Refused):
    def test_turns_have_their_values(self):
        turns = Turns(3, [(0, 0, 1), (2, 1, 0)])
        self.assertEqual((turns.many, turns.maps, len(turns)), (3, [(0, 0, 1), (2, 1, 0)], 2))
        self.assertIs(type(turns.maps), list)

    def test_the_bounds_of_the_places(self):
        for many in range(1, 33):
            turns = Turns(many, [ring(many), down(many)])
            self.assertEqual((turns.many, turns.maps, len(turns)), (many, [ring(many), down(many)], 2))
        for many in (0, -1, -32, 33, 34, 200, 10 ** 29, -10 ** 29):
            self.refused("many", many, [staying(1)])
            self.refused("many", many, [staying(many if 0 < many < 500 else 0)])

    def test_the_bounds_of_the_signs(self):
        for signs in (1, 2, 199, 200):
            self.assertEqual(len(Turns(1, [(0,)] * signs)), signs)
            self.assertEqual(len(Turns(32, [up(32)] * signs)), signs)
        self.refused("maps", 1, [])
        for signs in (201, 202, 500):
            self.refused("maps", 1, [(0,)] * signs)
            self.refused("maps", 32, [up(32)] * signs)

    def test_other_kinds_as_the_places(self):
        for thing in [*OTHER_KINDS, [], [1], (), (1,), knot()]:
            with self.subTest(thing=thing):
                self.refused("many", thing, [(0,)])
                self.refused("many", thing, [(0, 1)])

    def test_no_list_as_the_maps(self):
        for thing in [*OTHER_KINDS, 0, 1, (), ((0,),), (0,), {0: (0,)}, {(0,)}, knot(), EXAMPLE]:
            with self.subTest(thing=thing):
                self.refused("maps", 1, thing)
                self.refused("maps", 2, thing)

    def test_no_map_at_any_place(self):
        good = (1, 2, 0)
        bad = [(), (0,), (0, 1), (0, 1, 2, 0), [0, 1, 2], (0, 1, 3), (3, 0, 0), (-1, 0, 0), (0, 0, -3), (0, True, 2),
               (False, 1, 2), (0, 1, 10 ** 29), (0, None, 1), (0, "1", 2), (0, 1, 2j), (0, (1,), 2), (0, [1], 2),
               ((0, 1, 2),), [good], knot(), "012", b"012", {0: 0, 1: 1, 2: 2}, 0, *OTHER_KINDS]
        for thing in bad:
            with self.subTest(thing=thing):
                self.refused("maps", 3, [thing])
                for at in range(3):
                    maps = [good, good]
                    maps.insert(at, thing)
                    self.refused("maps", 3, maps)
                self.refused("maps", 3, [good] * 199 + [thing])
                self.refused("maps", 3, [thing, thing])

    def test_other_kinds_at_any_place_of_a_map(self):
        for thing in [*OTHER_KINDS, [0], (0,), 2, -1, -2, 10 ** 29]:
            for at in range(2):
                leads = [1, 0]
                leads[at] = thing
                self.refused("maps", 2, [(0, 1), tuple(leads)])
            self.refused("maps", 1, [(thing,)])

    def test_the_last_place_and_the_one_behind(self):
        for many in range(1, 33):
            self.assertEqual(Turns(many, [(many - 1,) * many]).maps, [(many - 1,) * many])
            self.refused("maps", many, [(many,) + (0,) * (many - 1)])
            self.refused("maps", many, [(0,) * (many - 1) + (many,)])
            self.refused("maps", many, [(0,) * (many - 1) + (-1,)])

    def test_both_amiss(self):
        for many in (0, 33, True, None, "2", [2]):
            for maps in ([], None, "maps", [(5,)], [[0, 0]], ((0, 0),), [(0, 0)] * 201):
                self.refused("many", many, maps)

    def test_the_refusal_is_one_of_the_draw(self):
        self.assertRaises(DrawError, Turns, 0, [])
        self.assertRaises(ValueError, Turns, 2, [])

    def test_what_is_handed_in_stays_and_changed_behind_changes_nothing(self):
        maps = [(0, 0), (1, 0)]
        turns = Turns(2, maps)
        self.assertEqual(maps, [(0, 0), (1, 0)])
        self.assertIsNot(turns.maps, maps)
        maps[0] = (1, 1)
        maps.append((0, 1))
        self.assertEqual((turns.maps, len(turns)), ([(0, 0), (1, 0)], 2))
        self.assertEqual(turns, EXAMPLE)
        self.assertEqual(walk_of(turns).rows, [[1, 1], [2, 0]])
        maps.clear()
        self.assertEqual(len(turns), 2)

    def test_what_is_refused_stays(self):
        for many, maps in [(0, [(0,)]), (2, [(0, 1), [0, 1]]), (2, [(0, 1), (0, 2)]), (1, [])]:
            before = copy.deepcopy(maps)
            self.assertRaises(NoTurns, Turns, many, maps)
            self.assertEqual(maps, before)


class Point31Equal(unittest.TestCase):
    def unlike(self, one, other):
        for left, right in ((one, other), (other, one)):
            self.assertIs(left == right, False)
            self.assertIs(left != right, True)
            self.assertNotIn(left, [right])
            self.assertNotIn(left, (right, right))

    def test_twins(self):
        for turns in [EXAMPLE, Turns(1, [(0,)]), Turns(32, [up(32), ring(32)] * 100), *some_turns(1, 20, 5, 7)]:
            twin = Turns(turns.many, list(turns.maps))
            for left, right in ((turns, twin), (twin, turns), (turns, turns)):
                self.assertIs(left == right, True)
                self.assertIs(left != right, False)
                self.assertIn(left, [None, right])
                self.assertEqual([right, 1].index(left), 0)

    def test_a_sign_more_or_less(self):
        for turns in [EXAMPLE, *some_turns(2, 20, 4, 3)]:
            self.unlike(turns, Turns(turns.many, [*turns.maps, turns.maps[-1]]))
            self.unlike(turns, Turns(turns.many, [turns.maps[0], *turns.maps]))
            self.unlike(turns, Turns(turns.many, turns.maps[1:]))
            self.unlike(turns, Turns(turns.many, turns.maps[:-1]))

    def test_two_signs_exchanged(self):
        self.unlike(EXAMPLE, Turns(2, [(1, 0), (0, 0)]))
        self.unlike(Turns(3, [ring(3), up(3), down(3)]), Turns(3, [ring(3), down(3), up(3)]))
        self.assertEqual(Turns(2, [(0, 0), (0, 0)]), Turns(2, [(0, 0), (0, 0)]))

    def test_one_place_of_one_map_turned(self):
        for turns in some_turns(3, 10, 4, 3):
            for sign in range(3):
                for at in range(4):
                    maps = [list(leads) for leads in turns.maps]
                    maps[sign][at] = (maps[sign][at] + 1) % 4
                    self.unlike(turns, Turns(4, [tuple(leads) for leads in maps]))

    def test_a_place_more(self):
        self.unlike(EXAMPLE, Turns(3, [(0, 0, 0), (1, 0, 0)]))
        self.unlike(Turns(1, [(0,)]), Turns(2, [(0, 0)]))

    def test_things_that_are_no_turns(self):
        walk = walk_of(EXAMPLE)
        for thing in [*OTHER_KINDS, 0, 1, 2, [], (), [(0, 0), (1, 0)], (2, [(0, 0), (1, 0)]), "2 / 0 0 / 1 0", walk, Turns]:
            self.unlike(EXAMPLE, thing)

    def test_things_that_have_the_same_values(self):
        class Like:
            many = 2
            maps = [(0, 0), (1, 0)]

        self.unlike(EXAMPLE, Like())

    def test_things_that_leave_it_to_the_turns_or_are_equal_to_all(self):
        class Eager:
            def __eq__(self, other):
                return True

        self.assertIs(EXAMPLE == Eager(), False)
        self.assertIs(EXAMPLE != Eager(), True)


class Point32(unittest.TestCase):
    def test_the_example(self):
        walk = walk_of(EXAMPLE)
        self.assertIsInstance(walk, Walk)
        self.assertEqual((walk.whole, walk.rows), (2, [[1, 1], [2, 0]]))

    def test_the_whole_and_the_rows(self):
        for many, signs in ((1, 1), (1, 200), (2, 5), (5, 7), (32, 1), (32, 200)):
            for turns in some_turns(many + signs, 3, many, signs):
                walk = walk_of(turns)
                rows = [[sum(leads[x] == y for leads in turns.maps) for y in range(many)] for x in range(many)]
                self.assertEqual((walk.whole, walk.rows), (signs, rows))
                self.assertEqual(walk.share(0, many - 1), Share(rows[0][many - 1], signs))

    def test_the_rows_are_new_ones_each(self):
        walk = walk_of(EXAMPLE)
        walk.rows[0][0] = 7
        walk.rows.append([])
        self.assertEqual(walk_of(EXAMPLE).rows, [[1, 1], [2, 0]])
        self.assertEqual(EXAMPLE, Turns(2, [(0, 0), (1, 0)]))
        rows = walk_of(Turns(2, [(0, 0)])).rows
        self.assertIsNot(rows[0], rows[1])

    def test_turns_go_as_their_own_walk_and_many_times_over(self):
        for turns in [EXAMPLE, Turns(1, [(0,)]), *some_turns(4, 20, 5, 6), *some_turns(5, 3, 32, 200)]:
            walk = walk_of(turns)
            self.assertIs(go_as(turns, walk), True)
            for times in (2, 3, 7, 5000):
                rows = [[number * times for number in row] for row in walk.rows]
                self.assertIs(go_as(turns, Walk(walk.whole * times, rows)), True)

    def test_turns_go_as_walks_with_a_part_of_their_whole(self):
        self.assertIs(go_as(Turns(2, [(0, 0), (0, 0), (1, 0), (1, 0)]), walk_of(EXAMPLE)), True)
        self.assertIs(go_as(Turns(3, [ring(3)] * 6), Walk(1, [[0, 1, 0], [0, 0, 1], [1, 0, 0]])), True)
        self.assertIs(go_as(Turns(2, [(0, 1)] * 4 + [(1, 0)] * 2), Walk(9, [[6, 3], [3, 6]])), True)

    def test_one_number_moved(self):
        for turns in [EXAMPLE, *some_turns(6, 10, 4, 5)]:
            for times in (1, 3, 1000):
                walk = walk_of(turns)
                for x in range(turns.many):
                    rows = [[number * times for number in row] for row in walk.rows]
                    most = max(range(turns.many), key=lambda y: rows[x][y])
                    rows[x][most] -= 1
                    rows[x][(most + 1) % turns.many] += 1
                    self.assertIs(go_as(turns, Walk(walk.whole * times, rows)), False)

    def test_a_place_more_or_less(self):
        self.assertIs(go_as(EXAMPLE, Walk(2, [[1, 1, 0], [2, 0, 0], [2, 0, 0]])), False)
        self.assertIs(go_as(EXAMPLE, Walk(2, [[1, 1, 0], [2, 0, 0], [0, 0, 2]])), False)
        self.assertIs(go_as(EXAMPLE, Walk(2, [[2]])), False)
        self.assertIs(go_as(Turns(1, [(0,)]), Walk(1, [[1, 0], [1, 0]])), False)
        self.assertIs(go_as(Turns(1, [(0,)]), Walk(9, [[9]])), True)

    def test_other_maps_of_the_same_walk(self):
        for turns in some_turns(7, 10, 4, 4):
            columns = [sorted(leads[x] for leads in turns.maps) for x in range(4)]
            other = Turns(4, [tuple(column[sign] for column in columns) for sign in range(4)])
            self.assertIs(go_as(other, walk_of(turns)), True)

    def test_what_is_handed_in_stays(self):
        turns = Turns(2, [(0, 0), (1, 0)])
        walk = Walk(4, [[2, 2], [4, 0]])
        for _ in range(2):
            self.assertIs(go_as(turns, walk), True)
        self.assertEqual((turns.many, turns.maps, walk.whole, walk.rows), (2, [(0, 0), (1, 0)], 4, [[2, 2], [4, 0]]))


class Point33(unittest.TestCase):
    def by_the_words(self, walk):
        maps = []
        for sign in range(walk.whole):
            maps.append(tuple(min(y for y in range(len(row)) if sum(row[:y + 1]) > sign) for row in walk.rows))
        return Turns(len(walk), maps)

    def test_small_ones(self):
        self.assertEqual(plain_turns(Walk(2, [[1, 1], [2, 0]])), Turns(2, [(0, 0), (1, 0)]))
        self.assertEqual(plain_turns(Walk(1, [[1]])), Turns(1, [(0,)]))
        self.assertEqual(plain_turns(Walk(3, [[0, 1, 2], [2, 0, 1], [0, 0, 3]])),
                         Turns(3, [(1, 0, 2), (2, 0, 2), (2, 2, 2)]))

    def test_0_ahead_between_and_behind(self):
        walk = Walk(4, [[0, 0, 1, 0, 3], [2, 0, 0, 2, 0], [0, 4, 0, 0, 0], [1, 1, 0, 1, 1], [0, 0, 0, 0, 4]])
        self.assertEqual(plain_turns(walk).maps, [(2, 0, 1, 0, 4), (4, 0, 1, 1, 4), (4, 3, 1, 3, 4), (4, 3, 1, 4, 4)])

    def test_by_the_words(self):
        chance = Random(33)
        for whole in (1, 2, 30, 199, 200):
            for many in (1, 2, 7, 32):
                for _ in range(3):
                    walk = some_walk(chance, many, whole)
                    turns = plain_turns(walk)
                    self.assertEqual(turns, self.by_the_words(walk))
                    self.assertEqual((len(turns), turns.many), (whole, many))
                    self.assertIs(go_as(turns, walk), True)
                    self.assertEqual((walk_of(turns).whole, walk_of(turns).rows), (walk.whole, walk.rows))

    def test_more_than_two_hundred(self):
        self.assertEqual(len(plain_turns(Walk(200, [[200]]))), 200)
        for whole in (201, 202, 1000, 10 ** 6):
            self.assertRaises(TooMany, plain_turns, Walk(whole, [[whole]]))
            self.assertRaises(TooMany, plain_turns, Walk(whole, [[whole - 100, 100], [whole, 0]]))

    def test_what_is_handed_in_stays_and_what_is_told_is_new(self):
        walk = Walk(2, [[1, 1], [2, 0]])
        told = plain_turns(walk)
        told.maps.clear()
        self.assertEqual(plain_turns(walk), EXAMPLE)
        self.assertEqual((walk.whole, walk.rows), (2, [[1, 1], [2, 0]]))

    def test_plain_turns_of_the_walks_of_all_small_turns(self):
        for turns in all_turns(2, 3):
            walk = walk_of(turns)
            self.assertIs(go_as(plain_turns(walk), walk), True)
            self.assertIs(go_as(turns, walk_of(plain_turns(walk))), True)
            self.assertEqual(closed_sets(walk), closed_sets(walk_of(plain_turns(walk))))


if __name__ == "__main__":
    unittest.main()

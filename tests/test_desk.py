"""Stage 12: the desk, the points 12.2 and 12.3, and 0.3 as far as the desk goes."""

import unittest
from random import Random

from elderdraw.counts import counts
from elderdraw.desk import Desk
from elderdraw.elder import drawn, drawn_doubled
from elderdraw.errors import DrawError, NeverMeets, NoName, NoRow, NoSign, NotOne, NotThere, NoText, TooMany
from elderdraw.once import once_shares, read_once
from elderdraw.tables import draw_shares, wait_table
from elderdraw.texts import show
from elderdraw.turns import Turns, walk_of
from elderdraw.walks import resting
from elderdraw.words import meeting, never_meet
from elderdraw.wrong import forward_shares, met_forward, tried_shares
from refusals import Refusals
from samples import (EXAMPLE, NEVER_300, ONE_MORE, OTHER_KINDS, THREE_HUNDRED, down, knot, resets, ring, rings, some_turns,
                     turns_that_meet, up)

TEXT = "2 / 0 0 / 1 0"
NEVER = Turns(2, [(0, 1), (1, 0)])
FIRST_WORDS = {"show": 0, "never": 0, "meet": 0, "rest": 0, "shares": 0, "forward": 0, "wait": 0, "stand": 0, "anew": 0,
               "tried": 1, "once": 1, "counts": 1, "draw": 1, "double": 1, "ahead": 1, "elder": 1, "read": 2}
NO_NAMES = ["", "A", "Abc", "abC", "a1", "1", "a_b", "a-b", "-", "/", "abcdefghi", "a" * 5000, "~", "names!", "a,b", "a.b",
            chr(233), "a" + chr(945)]
# Numbers that are none by their form.
NO_NUMBERS = ["", "-", "x", "00", "01", "007", "-1", "+1", "-0", "+0", "1.0", "1_0", "0x1", "1234567890", "0123456789",
              "1" * 5000, "1,", ",1", ",", "one", "/", "None", chr(0x663), chr(178)]
NO_SIGNS = ["", "x", ",", ",,", "0,", ",0", "0,,1", "0,1,", ",0,1", "00", "0,01", "01,0", "-1", "0,-1", "0,+1", "0,-", "-,0", "--",
            "0,1234567890", "1234567890", "0,x", "0.0", "0;1", "0,1_0", "/"]


def desk_with(**turns):
    desk = Desk()
    for name, one in turns.items():
        assert desk.say(f"turns {name} {show(one)}") == "ok"
    return desk


def spaced(things):
    return " ".join(str(thing) for thing in things)


def found(thing):
    return "-" if thing is None else f"{thing[0]} {thing[1]}"


def written(signs):
    return ",".join(str(sign) for sign in signs) or "-"


def everything(desk, name):
    """All that a desk tells of a name without a change."""
    rows = ["show", "never", "stand"]
    return [desk.say(f"{row} {name}") for row in rows]


class DeskAsked(Refusals):
    def no_row(self, desk, row):
        for _ in range(2):
            with self.assertRaises(NoRow) as caught:
                desk.say(row)
            self.assertIs(type(caught.exception), NoRow)

    def same_or_refused_alike(self, desk, row, deed, tell):
        """The row is answered by what the deed tells, or refused as the deed is."""
        try:
            wanted = tell(deed())
        except DrawError as refusal:
            with self.assertRaises(DrawError) as caught:
                desk.say(row)
            self.assertEqual((type(caught.exception), vars(caught.exception)), (type(refusal), vars(refusal)), row)
            return
        self.assertEqual((desk.say(row), type(desk.say(row))), (wanted, str), row)


class Point122(DeskAsked):
    def test_turns_kept_and_shown(self):
        desk = Desk()
        self.assertEqual(desk.say("turns a 2 / 0 0 / 1 0"), "ok")
        self.assertEqual(desk.say("show a"), "2 / 0 0 / 1 0")
        self.assertEqual(desk.say("turns abcdefgh 1 / 0"), "ok")
        self.assertEqual(desk.say("show abcdefgh"), "1 / 0")
        self.assertEqual(desk.say("turns turns 1 / 0 / 0"), "ok")
        self.assertEqual((desk.say("show turns"), desk.say("show a")), ("1 / 0 / 0", TEXT))

    def test_the_example(self):
        desk = desk_with(a=EXAMPLE)
        told = {"show a": TEXT, "never a": "-", "meet a": "0", "rest a": "2/3 1/3", "shares a": "2/3 1/3", "forward a": "1 0",
                "tried a 1": "1 0", "tried a 2": "2/3 1/3", "tried a 3": "5/7 2/7", "once a 1": "2/3 1/3", "once a 12": "2/3 1/3",
                "wait a": "2", "counts a 0": "0 0 1", "counts a 3": "5 2 1", "draw a 1,1,0": "0 3", "draw a 1,0,0": "1 2",
                "draw a 1": "-", "draw a -": "-", "draw a 0": "0 1", "double a 1,1,0": "-", "double a 1,1,0,1": "0 4",
                "double a -": "-", "ahead a 1,1,0": "0 3", "ahead a 0,1": "0 1", "ahead a 1,1": "-", "ahead a -": "-",
                "read a 1 0,1,0": "1 3", "read a 2 0,1,1,1,1,1,1,0": "1 4", "read a 1 0": "-", "read a 12 -": "-",
                "stand a": "- 0 0", "names": "a"}
        for row, answer in told.items():
            self.assertEqual(desk.say(row), answer, row)

    def test_turns_that_never_meet(self):
        desk = desk_with(a=NEVER, b=Turns(4, [(0, 0, 2, 2)]))
        self.assertEqual((desk.say("never a"), desk.say("never b")), ("0 1", "0 2, 0 3, 1 2, 1 3"))
        self.assertEqual((desk.say("meet a"), desk.say("meet b")), ("-", "-"))
        self.assertEqual(desk.say("rest a"), "1/2 1/2")
        self.assertEqual((desk.say("counts a 0"), desk.say("counts a 60")), ("0 0 1", f"0 0 {2 ** 60}"))
        for word in ("shares", "forward", "wait"):
            self.refused(NeverMeets, (0, 1), desk.say, f"{word} a")
            self.refused(NeverMeets, (0, 2), desk.say, f"{word} b")
        for row in ("tried a 0", "tried a 60", "once a 1", "once a 12", "tried b 5", "once b 5"):
            self.refused(NeverMeets, None, desk.say, row)
        self.refused(NotOne, [(0,), (2,)], desk.say, "rest b")
        for row in ("draw a 0,1,1", "double a 0,1,1,1", "ahead a 1,0", "read a 1 0,0,0", "read b 2 0,0,0,0,0"):
            self.assertEqual(desk.say(row), "-")

    def test_one_place(self):
        desk = desk_with(a=Turns(1, [(0,), (0,)]))
        told = {"never a": "-", "meet a": "now", "rest a": "1", "shares a": "1", "forward a": "1", "tried a 0": "1", "once a 7": "1",
                "wait a": "0", "counts a 0": "1 0", "counts a 60": f"{2 ** 60} 0", "draw a -": "0 0", "draw a 1,0": "0 0",
                "double a -": "0 0", "ahead a -": "0 0", "ahead a 1": "0 0", "read a 1 0,1": "0 2", "read a 1 0": "-", "stand a": "0 0 0",
                "elder a 1": "0"}
        for row, answer in told.items():
            self.assertEqual(desk.say(row), answer, row)
        self.assertEqual(desk.say("stand a"), "0 0 1")

    def test_the_meeting_word(self):
        desk = desk_with(a=Turns(5, [up(5), down(5)]), b=Turns(12, [ring(12)] * 11 + resets(12, (3,))))
        self.assertEqual((desk.say("meet a"), desk.say("meet b")), ("0 0 0 0", "11"))
        self.assertEqual(desk.say("draw b 10,9,8,11"), "6 4")

    def test_each_row_as_the_stages_tell(self):
        chance = Random(122)
        large = [THREE_HUNDRED, NEVER_300, ONE_MORE, Turns(21, [rings((20, 1)), *resets(21, (0, 20))])]
        for turns in [*turns_that_meet(), *some_turns(123, 20, 5, 2), *some_turns(124, 20, 4, 1), *large]:
            desk = desk_with(one=turns)
            self.same_or_refused_alike(desk, "show one", lambda: show(turns), str)
            self.same_or_refused_alike(desk, "never one", lambda: never_meet(turns),
                                       lambda pairs: ", ".join(f"{x} {y}" for x, y in pairs) or "-")
            self.same_or_refused_alike(desk, "meet one", lambda: meeting(turns),
                                       lambda word: "-" if word is None else spaced(word) or "now")
            for word, deed in (("rest", lambda: resting(walk_of(turns))), ("shares", lambda: draw_shares(turns)),
                               ("forward", lambda: forward_shares(turns))):
                self.same_or_refused_alike(desk, f"{word} one", deed, spaced)
            self.same_or_refused_alike(desk, "wait one", lambda: wait_table(turns)[0][1], str)
            for many in (0, 1, 7, 60):
                self.same_or_refused_alike(desk, f"tried one {many}", lambda: tried_shares(turns, many), spaced)
                self.same_or_refused_alike(desk, f"counts one {many}", lambda: counts(turns, many),
                                           lambda told: spaced([*told[0], told[1]]))
            for long in (1, 3, 12):
                self.same_or_refused_alike(desk, f"once one {long}", lambda: once_shares(turns, long), spaced)
                signs = [chance.randrange(len(turns)) for _ in range(7 * long)]
                self.same_or_refused_alike(desk, f"read one {long} {written(signs)}", lambda: read_once(turns, long, signs), found)
            for length in (0, 1, 2, 3, 8, 40):
                signs = [chance.randrange(len(turns) + length // 40) for _ in range(length)]
                for word, deed in (("draw", drawn), ("double", drawn_doubled), ("ahead", met_forward)):
                    self.same_or_refused_alike(desk, f"{word} one {written(signs)}", lambda: deed(turns, signs), found)
            self.assertEqual(desk.say("stand one"), "0 0 0" if turns.many == 1 else "- 0 0")

    def test_a_draw_is_told_signs(self):
        desk = desk_with(a=EXAMPLE)
        told = [(desk.say(f"elder a {sign}"), desk.say("stand a")) for sign in (1, 1, 0, 1, 0)]
        self.assertEqual(told, [("-", "- 1 1"), ("-", "- 2 2"), ("0", "0 3 3"), ("0", "0 3 4"), ("0", "0 3 5")])
        self.assertEqual((desk.say("stand a"), desk.say("stand a")), ("0 3 5", "0 3 5"))

    def test_a_draw_begun_anew(self):
        desk = desk_with(a=EXAMPLE, b=EXAMPLE)
        for sign in (1, 0):
            desk.say(f"elder a {sign}")
            desk.say(f"elder b {sign}")
        self.assertEqual(desk.say("anew a"), "ok")
        self.assertEqual((desk.say("stand a"), desk.say("stand b")), ("- 0 0", "1 2 2"))
        self.assertEqual((desk.say("elder a 0"), desk.say("show a")), ("0", TEXT))
        self.assertEqual((desk.say("anew a"), desk.say("anew a"), desk.say("stand a")), ("ok", "ok", "- 0 0"))

    def test_turns_kept_anew_by_a_name_that_has_some(self):
        desk = desk_with(a=EXAMPLE, b=EXAMPLE)
        for name in ("a", "b"):
            self.assertEqual(desk.say(f"elder {name} 0"), "0")
        self.assertEqual(desk.say("turns a 3 / 1 2 0"), "ok")
        self.assertEqual((desk.say("show a"), desk.say("stand a"), desk.say("names")), ("3 / 1 2 0", "- 0 0", "a b"))
        self.assertEqual(desk.say(f"turns b {TEXT}"), "ok")
        self.assertEqual((desk.say("show b"), desk.say("stand b"), desk.say("elder b 1")), (TEXT, "- 0 0", "-"))

    def test_names(self):
        desk = Desk()
        self.assertEqual(desk.say("names"), "-")
        for name in ("b", "zzzzzzzz", "ab", "a", "names", "ba", "aa"):
            desk.say(f"turns {name} 1 / 0")
        self.assertEqual(desk.say("names"), "a aa ab b ba names zzzzzzzz")
        desk.say("turns a 1 / 0 / 0")
        self.assertEqual(desk.say("names"), "a aa ab b ba names zzzzzzzz")

    def test_names_that_are_first_words(self):
        desk = Desk()
        for name in [*FIRST_WORDS, "turns", "names"]:
            self.assertEqual(desk.say(f"turns {name} {TEXT}"), "ok")
            self.assertEqual((desk.say(f"show {name}"), desk.say(f"elder {name} 0")), (TEXT, "0"))

    def test_two_desks(self):
        one, other = desk_with(a=EXAMPLE), desk_with(a=NEVER, b=NEVER)
        one.say("elder a 0")
        self.assertEqual((one.say("stand a"), other.say("stand a")), ("0 1 1", "- 0 0"))
        self.assertEqual((one.say("names"), other.say("names")), ("a", "a b"))
        other.say("anew a")
        other.say("turns c 1 / 0")
        self.assertEqual((one.say("stand a"), one.say("show a"), one.say("names")), ("0 1 1", TEXT, "a"))
        self.assertEqual(Desk().say("names"), "-")
        self.refused(NotThere, "b", one.say, "show b")

    def test_two_names_with_draws_of_their_own(self):
        desk = desk_with(a=EXAMPLE, b=EXAMPLE)
        desk.say("elder a 1")
        desk.say("elder b 0")
        self.assertEqual((desk.say("stand a"), desk.say("stand b")), ("- 1 1", "0 1 1"))

    def test_rows_that_tell_change_nothing(self):
        desk = desk_with(a=EXAMPLE, b=Turns(5, [up(5), down(5)]))
        desk.say("elder a 1")
        desk.say("elder b 0")
        before = [everything(desk, name) for name in ("a", "b")]
        for row in ("show a", "never a", "meet a", "rest a", "shares a", "forward a", "tried a 4", "once a 4", "wait a", "counts a 4",
                    "draw a 0,1", "double a 0,1", "ahead a 0,1", "read a 1 0,1", "stand a", "names"):
            self.assertEqual(desk.say(row), desk.say(row))
            self.assertEqual([everything(desk, name) for name in ("a", "b")], before)

    def test_long_rows(self):
        desk = desk_with(a=EXAMPLE)
        self.assertEqual(desk.say("draw a " + "1," * 400 + "0"), "0 401")
        self.assertEqual(desk.say("ahead a " + "1," * 400 + "0"), "0 401")
        self.assertEqual(desk.say("double a " + "1," * 400 + "0"), "-")
        self.assertEqual(desk.say("read a 1 0," + "1," * 400 + "0"), "0 402")
        large = Turns(32, [ring(32)] * 90)
        self.assertEqual(desk.say(f"turns large {show(large)}"), "ok")
        self.assertEqual(desk.say("show large"), show(large))


class Point123(DeskAsked):
    def test_what_is_no_text(self):
        desk = desk_with(a=EXAMPLE)
        for thing in [*OTHER_KINDS, 0, -1, [], (), ["names"], ("show", "a"), b"names", knot(), EXAMPLE, desk]:
            if not isinstance(thing, str):
                self.no_row(desk, thing)

    def test_the_first_word(self):
        desk = desk_with(a=EXAMPLE)
        for row in ("", " ", "  ", "a", "Show a", "SHOW a", "shows a", "sho a", " show a", "show  a", "show a ", "say a", "names ",
                    " names", "names a", "name", "Names", "x", "- a", "looked a", "maps a", "0", "used a", "turn a " + TEXT):
            self.no_row(desk, row)

    def test_how_many_words_there_are(self):
        desk = desk_with(a=EXAMPLE)
        for word, many in FIRST_WORDS.items():
            for number in range(5):
                if number != many:
                    self.no_row(desk, " ".join([word, "a"] + ["1"] * number))
            self.no_row(desk, word)
            if many > 0:
                self.no_row(desk, f"{word} ")
            else:
                self.refused(NotThere, "", desk.say, f"{word} ")
            self.no_row(desk, " ".join([word, "a"] + ["1"] * many) + " ")
        for row in ("turns", "turns a", "turns ", "turns A", "turns " + "a" * 50):
            self.no_row(desk, row)
        self.refused(NoText, 0, desk.say, "turns a ")
        self.refused(NoText, 0, desk.say, "turns a  ")
        self.refused(NoName, "", desk.say, "turns  ")
        self.refused(NoName, "", desk.say, "turns  " + TEXT)

    def test_the_form_of_numbers(self):
        desk = desk_with(a=EXAMPLE)
        for word in NO_NUMBERS:
            for row in (f"tried a {word}", f"once a {word}", f"counts a {word}", f"elder a {word}", f"read a {word} 0,0"):
                if word != "":
                    self.no_row(desk, row)
                    self.no_row(desk, row.replace(" a ", " b "))
                    self.no_row(desk, row.replace(" a ", " A "))
        for row in ("tried a ", "once a ", "counts a ", "elder a ", "read a  0,0", "read a 1 "):
            self.no_row(desk, row)

    def test_the_form_of_signs(self):
        desk = desk_with(a=EXAMPLE)
        for word in NO_SIGNS:
            for row in (f"draw a {word}", f"double a {word}", f"ahead a {word}", f"read a 1 {word}", f"read a 99 {word}"):
                self.no_row(desk, row)
                self.no_row(desk, row.replace(" a ", " b "))

    def test_numbers_of_nine_figures(self):
        desk = desk_with(a=EXAMPLE)
        for sign in (2, 9, 10, 999999999, 100000000):
            self.refused(NoSign, sign, desk.say, f"elder a {sign}")
            for word in ("draw", "double", "ahead"):
                self.refused(NoSign, sign, desk.say, f"{word} a {sign}")
                self.refused(NoSign, sign, desk.say, f"{word} a 0,1,{sign},7")
            self.refused(NoSign, sign, desk.say, f"read a 2 0,1,0,1,{sign}")
        for word in ("tried", "counts", "once"):
            self.no_row(desk, f"{word} a 999999999")
            self.refused(NotThere, "b", desk.say, f"{word} b 999999999")
            self.no_row(desk, f"{word} b 1000000000")

    def test_no_name_where_it_is_to_be_kept(self):
        desk = desk_with(a=EXAMPLE)
        for name in NO_NAMES:
            self.refused(NoName, name, desk.say, f"turns {name} {TEXT}")
            self.refused(NoName, name, desk.say, f"turns {name} no text")
        self.assertEqual(desk.say("names"), "a")
        self.assertEqual(desk.say(f"turns abcdefgh {TEXT}"), "ok")
        self.assertEqual(desk.say("turns z 1 / 0"), "ok")

    def test_names_that_have_no_turns(self):
        desk = desk_with(a=EXAMPLE)
        for word, many in FIRST_WORDS.items():
            behind = " 1" * many
            for name in [*NO_NAMES, "b", "aa", "ab", "abcdefgh", "names", "show"]:
                self.refused(NotThere, name, desk.say, f"{word} {name}{behind}")
                self.refused(NotThere, name, Desk().say, f"{word} {name}{behind}")

    def test_no_text_of_turns(self):
        desk = desk_with(a=EXAMPLE)
        for text, at in (("0 / 0", 0), ("x", 0), ("33", 0), ("2", 1), ("2 ", 1), ("2 /", 2), ("2 / 0", 3), ("2 / 0 2", 3),
                         ("2 / 0 0 ", 4), ("2 / 0 0 /", 5), ("2  / 0 0", 1), (" " + TEXT, 0), (TEXT + " 0", 7), ("a " + TEXT, 0)):
            self.refused(NoText, at, desk.say, f"turns a {text}")
            self.refused(NoText, at, desk.say, f"turns b {text}")
        self.assertEqual((desk.say("show a"), desk.say("names")), (TEXT, "a"))

    def test_many_and_long_beyond_their_bounds(self):
        desk = desk_with(a=EXAMPLE, never=NEVER_300, more=ONE_MORE)
        for many in (61, 62, 100, 999999999):
            for name in ("a", "never", "more"):
                self.no_row(desk, f"tried {name} {many}")
                self.no_row(desk, f"counts {name} {many}")
        for long in (0, 13, 14, 61, 999999999):
            for name in ("a", "never", "more"):
                self.no_row(desk, f"once {name} {long}")
                self.no_row(desk, f"read {name} {long} -")
                self.no_row(desk, f"read {name} {long} 0,999,0")
        for row in ("tried a 60", "counts a 60", "counts a 0", "once a 1", "once a 12", "read a 1 -", "read a 12 -"):
            desk.say(row)
        self.refused(NeverMeets, None, desk.say, "tried a 0")

    def test_in_this_order(self):
        desk = desk_with(a=EXAMPLE, never=NEVER_300, more=ONE_MORE)
        # The form of all numbers is ahead of names, these of the bounds of numbers, these of what the stages refuse.
        self.no_row(desk, "read b 01 0,0")
        self.no_row(desk, "read b 99 0,,0")
        self.refused(NotThere, "b", desk.say, "read b 99 999")
        self.no_row(desk, "read a 99 999")
        self.refused(NoSign, 999, desk.say, "read a 12 999")
        self.refused(NotThere, "b", desk.say, "tried b 61")
        self.no_row(desk, "tried more 61")
        self.assertRaises(TooMany, desk.say, "tried more 60")
        self.no_row(desk, "once never 0")
        self.refused(NeverMeets, None, desk.say, "once never 12")
        self.refused(NotThere, "b", desk.say, "elder b 999")
        self.refused(NoSign, 999, desk.say, "elder a 999")
        self.no_row(desk, "elder b 0999")
        self.no_row(desk, "turns A")
        self.refused(NoName, "A", desk.say, "turns A x")
        self.refused(NoText, 0, desk.say, "turns b x")
        self.no_row(desk, "show A 1")
        self.refused(NotThere, "A", desk.say, "show A")
        self.no_row(desk, "draw A 0,")

    def test_what_the_stages_refuse(self):
        desk = desk_with(more=ONE_MORE, many=Turns(32, [up(32), down(32)]), forty=Turns(21, [rings((20, 1)), *resets(21, (0, 20))]))
        for row in ("shares more", "wait more", "tried more 0", "once more 1", "counts more 0", "meet many", "forward many", "wait forty",
                    "shares many"):
            self.assertRaises(TooMany, desk.say, row)
        self.assertEqual(desk.say("never more"), "-")

    def test_what_is_refused_changes_nothing(self):
        desk = desk_with(a=EXAMPLE, b=NEVER)
        for sign in (1, 0, 1):
            desk.say(f"elder a {sign}")
        desk.say("elder b 1")
        before = [everything(desk, name) for name in ("a", "b")]
        rows = [None, 7, "", "turns a", "turns a 2 / 0 0 / 1", "turns b 2 / 0 2", "turns A 1 / 0", "turns c 1 / 1", "elder a 2", "elder b 2",
                "elder a 01", "elder a -", "elder a 0,0", "elder c 0", "anew c", "anew", "anew a a", "anew a ", "anew A", "stand a 1",
                "names a", "draw a 2", "read a 13 0", "counts a 61", "shares b", "forward b", "wait b", "tried b 3", "once b 3"]
        for row in rows:
            self.assertRaises(DrawError, desk.say, row)
            self.assertEqual([everything(desk, name) for name in ("a", "b")], before, row)
            self.assertEqual(desk.say("names"), "a b")
        self.assertEqual((desk.say("elder a 0"), desk.say("stand a"), desk.say("elder b 0"), desk.say("stand b")),
                         ("1", "1 2 4", "-", "- 2 2"))

    def test_all_short_rows_are_answered_or_refused(self):
        desk = desk_with(a=EXAMPLE)
        words = ["names", "show", "tried", "read", "elder", "turns", "a", "0", "1", "-", "", "x1"]
        for first in words:
            for second in words:
                for third in words:
                    for row in (first, f"{first} {second}", f"{first} {second} {third}"):
                        try:
                            self.assertIs(type(desk.say(row)), str)
                        except (NoRow, NoName, NotThere, NoText, NeverMeets, NoSign):
                            self.assertIn(desk.say("show a"), (TEXT, "1 / 0"))


if __name__ == "__main__":
    unittest.main()

"""Stage 12: texts, the point 12.1, and 0.3 as far as texts go."""

import unittest
from itertools import chain

from elderdraw.errors import NoText
from elderdraw.texts import read, show
from elderdraw.turns import Turns
from refusals import Refusals
from samples import (EXAMPLE, NEVER_300, OTHER_KINDS, THREE_HUNDRED, all_turns, knot, large_turns, ring, some_turns, staying)

PLACES = [str(place) for place in range(32)]
# No numbers as they are written, and no "/".
NO_WORDS = ["", "a", "-", "+", "-0", "-1", "+0", "+1", "00", "01", "007", "0" * 4500, "1" * 4500, "-" + "1" * 4500, "//", "/0", "0/",
            "1.0", "0x1", "1e1", "1_0", "one", "~", "!", "None", "True", ",", "0,1", "[0]", "9" * 30]


def is_good(word, many, at):
    """Whether a word may stand at a place behind the first one, where it is not too far behind."""
    if (at - 1) % (many + 1) == 0:
        return word == "/"
    return word in PLACES[:many]


def samples():
    yield from all_turns(1, 1)
    yield from all_turns(1, 3)
    yield from all_turns(2, 1)
    yield from all_turns(2, 2)
    yield from some_turns(121, 20, 3, 2)
    yield from some_turns(122, 5, 11, 4)
    yield from (EXAMPLE, THREE_HUNDRED, NEVER_300, Turns(10, [ring(10)]), Turns(11, [ring(11)]))


class Shown(unittest.TestCase):
    def test_the_example(self):
        self.assertEqual(show(EXAMPLE), "2 / 0 0 / 1 0")

    def test_some_texts(self):
        self.assertEqual(show(Turns(1, [(0,)])), "1 / 0")
        self.assertEqual(show(Turns(1, [(0,)] * 3)), "1 / 0 / 0 / 0")
        self.assertEqual(show(Turns(3, [(2, 1, 0)])), "3 / 2 1 0")
        self.assertEqual(show(Turns(12, [ring(12)])), "12 / 1 2 3 4 5 6 7 8 9 10 11 0")
        self.assertEqual(show(Turns(32, [(31,) * 32])), "32 / " + " ".join(["31"] * 32))
        self.assertEqual(show(Turns(1, [(0,)] * 200)), "1" + " / 0" * 200)

    def test_asked_again_the_same(self):
        turns = Turns(2, [(0, 0), (1, 0)])
        self.assertEqual((show(turns), show(turns), turns), ("2 / 0 0 / 1 0", "2 / 0 0 / 1 0", EXAMPLE))
        self.assertIs(type(show(turns)), str)


class Read(Refusals):
    def test_there_and_back(self):
        large = [large_turns(), Turns(32, [staying(32)] * 200), Turns(1, [(0,)] * 200)]
        for turns in chain(samples(), large, some_turns(123, 3, 32, 200), some_turns(124, 10, 17, 30)):
            told = read(show(turns))
            self.assertEqual((type(told), told), (Turns, turns))
            self.assertEqual(show(told), show(turns))

    def test_some_texts(self):
        self.assertEqual(read("2 / 0 0 / 1 0"), EXAMPLE)
        self.assertEqual(read("1 / 0"), Turns(1, [(0,)]))
        self.assertEqual(read("3 / 2 1 0 / 0 0 0"), Turns(3, [(2, 1, 0), (0, 0, 0)]))
        self.assertEqual(read("10 / 9 8 7 6 5 4 3 2 1 0"), Turns(10, [tuple(range(9, -1, -1))]))

    def test_turns_that_are_read_are_new_ones(self):
        one, other = read("2 / 0 0 / 1 0"), read("2 / 0 0 / 1 0")
        one.maps.clear()
        self.assertEqual((other, read("2 / 0 0 / 1 0")), (EXAMPLE, EXAMPLE))

    def test_what_is_no_text(self):
        for thing in [*OTHER_KINDS, 2, -1, [], (), ["2 / 0 0 / 1 0"], ["2", "/", "0", "0"], b"2 / 0 0 / 1 0", knot(), EXAMPLE]:
            if not isinstance(thing, str):
                self.refused(NoText, None, read, thing)

    def test_the_first_word(self):
        for word in [*NO_WORDS, "0", "33", "34", "100", "200", "-2", "+2", "02", "2.", "2/", "/", "320", "3_"]:
            self.refused(NoText, 0, read, word)
            self.refused(NoText, 0, read, word + " / 0 0 / 1 0")
        self.refused(NoText, 0, read, "/ 0 0 / 1 0")
        self.refused(NoText, 0, read, "")
        self.refused(NoText, 0, read, " ")
        self.refused(NoText, 0, read, " 2 / 0 0 / 1 0")
        for many in range(1, 33):
            self.refused(NoText, 1, read, str(many))
            self.assertEqual(read(f"{many} /" + " 0" * many), Turns(many, [(0,) * many]))

    def test_blanks(self):
        text = "2 / 0 0 / 1 0"
        words = text.split(" ")
        self.refused(NoText, 7, read, text + " ")
        self.refused(NoText, 7, read, text + "  ")
        self.refused(NoText, 1, read, "2 ")
        self.refused(NoText, 2, read, "2 / ")
        for at in range(1, len(words)):
            self.refused(NoText, at, read, " ".join(words[:at]) + "  " + " ".join(words[at:]))
        for at in range(len(text)):
            if text[at] == " ":
                self.refused(NoText, text[:at].count(" "), read, text[:at] + text[at + 1:])

    def test_a_word_exchanged_at_each_place(self):
        for turns in samples():
            words = show(turns).split(" ")
            for at in range(1, min(len(words), 60)):
                for word in [*NO_WORDS, "/", *PLACES[:13], PLACES[-1], "32", str(turns.many), str(turns.many - 1)]:
                    text = " ".join([*words[:at], word, *words[at + 1:]])
                    if is_good(word, turns.many, at):
                        self.assertEqual(show(read(text)), text)
                    else:
                        self.refused(NoText, at, read, text)

    def test_places_that_there_are_not(self):
        for many in range(1, 33):
            for sign in (0, 1):
                for behind in (0, many - 1):
                    words = show(Turns(many, [staying(many)] * 2)).split(" ")
                    at = 2 + sign * (many + 1) + behind
                    for place in (many, many + 1, 99, 10 ** 29):
                        words[at] = str(place)
                        self.refused(NoText, at, read, " ".join(words))
                    words[at] = str(many - 1)
                    self.assertEqual(read(" ".join(words)).maps[sign][behind], many - 1)

    def test_a_word_left_off_at_each_place(self):
        for turns in samples():
            words = show(turns).split(" ")
            many = turns.many
            for at in range(1, min(len(words), 60)):
                shorter = [*words[:at], *words[at + 1:]]
                wanted = [k for k in range(1, len(shorter)) if not is_good(shorter[k], many, k)]
                self.refused(NoText, wanted[0] if wanted else len(shorter), read, " ".join(shorter))

    def test_words_left_off_at_the_end(self):
        for turns in samples():
            words = show(turns).split(" ")
            for many in range(1, len(words)):
                text = " ".join(words[:many])
                if many > 1 and (many - 1) % (turns.many + 1) == 0:
                    self.assertEqual(read(text), Turns(turns.many, turns.maps[:(many - 1) // (turns.many + 1)]))
                else:
                    self.refused(NoText, many, read, text)

    def test_a_word_put_in_at_each_place(self):
        for turns in samples():
            words = show(turns).split(" ")
            for at in range(1, min(len(words), 40) + 1):
                for word in ("/", "0", "", "x", str(turns.many)):
                    longer = [*words[:at], word, *words[at:]]
                    wanted = [k for k in range(1, len(longer)) if not is_good(longer[k], turns.many, k)]
                    self.refused(NoText, wanted[0] if wanted else len(longer), read, " ".join(longer))

    def test_the_first_of_two_is_told(self):
        self.refused(NoText, 0, read, "x y z")
        self.refused(NoText, 1, read, "2 x y z")
        self.refused(NoText, 2, read, "2 / 2")
        self.refused(NoText, 3, read, "2 / 0 x / 1 y")
        self.refused(NoText, 6, read, "2 / 0 0 / 1 y z")
        self.refused(NoText, 3, read, "2 / 0 / 0")

    def test_two_hundred_signs(self):
        for turns in (Turns(1, [(0,)] * 200), Turns(2, [(1, 0)] * 200), large_turns()):
            text = show(turns)
            many = len(text.split(" "))
            self.assertEqual((many, read(text)), (1 + 200 * (turns.many + 1), turns))
            sign = " / " + " ".join(["0"] * turns.many)
            for behind in (" /", sign, sign + sign, sign + " /", " 0", " x", " "):
                self.refused(NoText, many, read, text + behind)

    def test_fewer_than_two_hundred_signs(self):
        for signs in (1, 2, 198, 199):
            text = show(Turns(2, [(1, 0)] * signs))
            many = 1 + 3 * signs
            self.refused(NoText, many + 1, read, text + " /")
            self.refused(NoText, many + 2, read, text + " / 0")
            self.assertEqual(read(text + " / 0 0"), Turns(2, [(1, 0)] * signs + [(0, 0)]))
            for behind in (" 0", " x", " ", " //"):
                self.refused(NoText, many, read, text + behind)
        self.refused(NoText, 601, read, show(Turns(2, [(1, 0)] * 199)) + " / 0 0 / 0 0")

    def test_just_what_can_be_written_so_is_read(self):
        # Of all rows of up to six of some words those are read that turns are shown as.
        told = {show(turns) for many, signs in ((1, 1), (1, 2), (2, 1), (3, 1)) for turns in all_turns(many, signs)}
        words = ["/", "0", "1", "2", "3", "", "01"]
        texts = [""]
        read_ones = set()
        for _ in range(5):
            texts = [word if not text else text + " " + word for text in texts for word in words]
            for text in texts:
                try:
                    self.assertEqual(show(read(text)), text)
                    read_ones.add(text)
                except NoText as refusal:
                    self.assertTrue(0 <= refusal.at <= text.count(" ") + 1)
        self.assertEqual(read_ones, told)


if __name__ == "__main__":
    unittest.main()

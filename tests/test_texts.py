"""Texts of gluings and words, read back, and where a text that is none breaks."""

import re
import unittest

from tests.helpers import FAMILY, exactly_equal
from whatrims.errors import BadText
from whatrims.texts import gluing_text, read_gluing, read_word, word_text

NO_STRINGS = [None, True, False, 0, 7, (), [], {}, ("4",), ["4"], {"4": "4"}, (3,), ((4,), ())]

BAD_GLUINGS = [
    # What ends too early, and an empty text.
    ("", 0), ("4 ", 2), ("4 3 ", 4), ("4;", 2), ("4 3;", 4), ("4 3;0", 5), ("4 3;0.", 6), ("4 3;0.1", 7),
    ("4 3;0.1=", 8), ("4 3;0.1=1", 9), ("4 3;0.1=1.", 10), ("4 3;0.1=1.2 ", 12), ("3;0.0=0.1 ", 10),
    # Signs that cannot follow, at the beginning, within and at the end.
    (" 4", 0), (";", 0), ("-4", 0), ("+4", 0), ("x", 0), (".", 0), ("\n4", 0), ("4  3", 2), ("4 ;", 2), ("4,3", 1),
    ("4\t3", 1), ("4\n", 1), ("4.0", 1), ("4=", 1), ("4 -3", 2), ("4 3x", 3), ("4 3;;", 4), ("4 3; 0.1=1.2", 4),
    ("4 3;.1", 4), ("4 3;=", 4), ("4 3;0=", 5), ("4 3;0;", 5), ("4 3;0 .1", 5), ("4 3;0..1", 6), ("4 3;0.1.", 7),
    ("4 3;0.1 =1.2", 7), ("4 3;0.1;", 7), ("4 3;0.1==", 8), ("4 3;0.1= 1.2", 8), ("4 3;0.1=1=", 9),
    ("4 3;0.1=1.2;", 11), ("4 3;0.1=1.2=", 11), ("4 3;0.1=1.2.", 11), ("4 3;0.1=1.2,", 11), ("4 3;0.1=1.2\n", 11),
    ("4 3;0.1=1.2  0.2=1.1", 12), ("4 3;0.1=1.2 ;", 12), ("4 3;0.1=1.2 =", 12), ("4 3;+0.1", 4), ("4 3;0.-1", 6),
    # A 0 ahead of other figures, and a seventh figure.
    ("04", 1), ("4 03", 3), ("4 3;00.1=1.2", 5), ("4 3;0.01=1.2", 7), ("4 3;0.1=01.2", 9), ("4 3;0.1=1.02", 11),
    ("1234567", 6), ("4 1234567", 8), ("4 3;1234567.0", 10), ("4 3;0.1=1234567", 14), ("4 3;0.1234567", 12),
    ("4 3;0.1=1.1234567", 16), ("4 3;123456.0", 12), ("4 3;123456", 10), ("4 3;123456x", 10),
    # Numbers of sides that are not from 3 to 24.
    ("0", 1), ("1", 1), ("2", 1), ("25", 2), ("4 2", 3), ("4 25 3", 4), ("4 0;", 3), ("2x", 1), ("100", 3),
    ("2 4", 1), ("999999", 6),
    # Sides that are none, the first or the second one of a tie; of a tile that is none only with the second number.
    ("4 3;0.4=1.2", 7), ("4 3;1.3=1.2", 7), ("4 3;2.0=1.2", 7), ("4 3;2x", 5), ("4 3;2.x", 6), ("4 3;0.1=2.0", 11),
    ("4 3;0.1=1.3", 11), ("4 3;0.1=9", 9), ("4 3;0.10=1.2", 8), ("4 3;0.44", 8), ("4 3;0.1=1.3x", 11),
    # Ties of which the first side is not below the second one.
    ("4 3;1.2=0.1", 11), ("4 3;0.1=0.1", 11), ("4 3;0.1=0.0", 11), ("4 3;0.3=0.2 x", 11),
    # Sides that a tie ahead has.
    ("4 4;0.1=1.3 0.1=1.2", 19), ("4 4;0.1=1.3 0.2=1.3", 19), ("4 4;0.1=0.2 0.2=1.3", 19), ("4 4;0.1=0.3 0.2=0.3", 19),
    ("4 4;0.1=1.3 0.1=1.3", 19), ("4 4;0.1=1.3 0.1=x", 16), ("4 4;0.1=1.3 0.1", 15),
    # Ties that are not above the one ahead.
    ("4 4;0.1=1.3 0.0=1.0", 19), ("4 4;0.1=1.3 0.0=1.0 0.2=1.1", 19), ("4 4;0.1=1.3 0.0=1", 17),
    ("4 4;1.0=1.1 0.1=0.2", 19), ("4 4;0.0=1.0 0.2=1.1 0.1=1.2", 27), ("4 4;0.1=1.0 0.2=1.1 0.0=1.2 x", 27),
]

BAD_WORDS = [
    ("", 0), ("1 ", 2), ("1 2 ", 4), (" ", 0), (" 1", 0), ("1  2", 2), ("1,2", 1), ("-1", 0), ("+1", 0), ("1 -2", 2),
    ("1\n", 1), ("1\t2", 1), ("x", 0), ("1 x", 2), ("1x", 1), ("1;", 1), ("1.2", 1), ("1 2\n", 3), ("\n", 0),
    ("01", 1), ("1 02", 3), ("1234567", 6), ("1 1234567 1", 8), ("0", 1), ("1 0", 3), ("1 0 1", 3), ("0x", 1),
    ("1 00", 3), ("1 2 0 ", 5),
]

GLUING_FORM = r"N( N)*(;N\.N=N\.N( N\.N=N\.N)*)?".replace("N", "(0|[1-9][0-9]{0,5})")
WORD_FORM = r"N( N)*".replace("N", "(0|[1-9][0-9]{0,5})")


def first_that_cannot_follow(form, text):
    """Return the place where a text leaves a form; None if it has this form."""
    for end in range(1, len(text) + 1):
        if not any(re.fullmatch(form, text[:end] + more) for more in
                   ("", "1", ".1=1.1", "1.1=1.1", "1=1.1", "=1.1", "1.1", ".1")):
            return end - 1
    return None if re.fullmatch(form, text) else len(text)


def place_of_gluing(text):
    """Say in other words than the program where a text of a gluing breaks, None if nowhere."""
    by_form = first_that_cannot_follow(GLUING_FORM, text)
    told = text if by_form is None else text[:by_form]
    sizes, ties = [], []
    for found in re.finditer("[0-9]+", told.partition(";")[0]):
        sizes.append(int(found.group()))
        if not 3 <= sizes[-1] <= 24:
            return found.end()
    start = len(told.partition(";")[0]) + 1
    for tie in re.finditer(r"([0-9]+)\.([0-9]+)(?:=([0-9]+)\.([0-9]+))?", told[start:]):
        t, i, u, j = [None if part is None else int(part) for part in tie.groups()]
        if t >= len(sizes) or i >= sizes[t]:
            return start + tie.end(2)
        if u is None:
            break
        ahead = [side for each in ties for side in each]
        if u >= len(sizes) or j >= sizes[u] or (t, i) >= (u, j) or (t, i) in ahead or (u, j) in ahead:
            return start + tie.end()
        if ties and (t, i) <= ties[-1][0]:
            return start + tie.end()
        ties.append(((t, i), (u, j)))
    return by_form


def broken(text, signs):
    """Return texts with one sign left out, put in or exchanged, and all beginnings."""
    found = [text[:k] for k in range(len(text))]
    for k in range(len(text) + 1):
        found.append(text[:k] + text[k + 1:])
        for sign in signs:
            found += [text[:k] + sign + text[k:], text[:k] + sign + text[k + 1:]]
    return found


class Texts(unittest.TestCase):
    def place(self, read, text):
        with self.assertRaises(BadText) as caught:
            read(text)
        return caught.exception.place

    def test_gluings_told_and_read_back(self):
        self.assertEqual(gluing_text(((3, 24), (((0, 0), (0, 1)), ((0, 2), (1, 23))))), "3 24;0.0=0.1 0.2=1.23")
        self.assertEqual(gluing_text(((3, 24), ())), "3 24")
        for gluing in FAMILY:
            self.assertTrue(exactly_equal(read_gluing(gluing_text(gluing)), gluing))

    def test_a_great_gluing(self):
        gluing = ((24,) * 60, tuple(((t, 23), (t + 1, 0)) for t in range(59)))
        self.assertEqual(read_gluing(gluing_text(gluing)), gluing)

    def test_words_told_and_read_back(self):
        for word, text in (((1,), "1"), ((1, 2), "1 2"), ((999999, 10, 1), "999999 10 1"), ((3,) * 60, "3 " * 59 + "3")):
            self.assertEqual(word_text(word), text)
            self.assertTrue(exactly_equal(read_word(text), word))

    def test_what_is_no_string(self):
        for value in NO_STRINGS:
            self.assertEqual(self.place(read_gluing, value), 0)
            self.assertEqual(self.place(read_word, value), 0)

    def test_places_of_gluings(self):
        for text, place in BAD_GLUINGS:
            self.assertEqual(self.place(read_gluing, text), place, text)
            self.assertEqual(place_of_gluing(text), place, text)

    def test_places_of_words(self):
        for text, place in BAD_WORDS:
            self.assertEqual(self.place(read_word, text), place, text)

    def test_gluings_broken_in_all_ways(self):
        for whole in ("4 13", "4 3;0.1=1.2", "3 4 5;0.0=1.0 0.1=2.0 2.1=2.4", "24;0.1=0.22 0.10=0.11"):
            for text in broken(whole, "0129 ;.=x"):
                place = place_of_gluing(text)
                if place is None:
                    self.assertEqual(gluing_text(read_gluing(text)), text)
                else:
                    self.assertEqual(self.place(read_gluing, text), place, text)

    def test_words_broken_in_all_ways(self):
        for whole in ("1", "1 2 3", "123456 10 7"):
            for text in broken(whole, "019 ;-x"):
                places = [found.end() for found in re.finditer(r"(?<![0-9])0", text)]
                by_form = first_that_cannot_follow(WORD_FORM, text)
                places = [place for place in places + [by_form] if place is not None and (by_form or place) >= place]
                if places:
                    self.assertEqual(self.place(read_word, text), min(places), text)
                else:
                    self.assertEqual(word_text(read_word(text)), text)

    def test_other_figures_than_0_to_9(self):
        for text in ("\u0663", "4\u0663", "\u00b3"):
            self.assertEqual(self.place(read_gluing, text), len(text) - 1)
            self.assertEqual(self.place(read_word, text), len(text) - 1)


if __name__ == "__main__":
    unittest.main()

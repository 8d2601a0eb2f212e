"""Rims drawn on flat floors, sizes told by rim words, and words of unlike sizes."""

import unittest
from fractions import Fraction

from tests.helpers import discs_of, exactly_equal
from whatrims.drawn import (area_of, comes_home, cross_sum, drawn, judge_unlike, size_of, sized_words, sizes_told,
                            touches, turns_of, unlike_sizes)
from whatrims.errors import TooMany
from whatrims.pieces import counts
from whatrims.rims import rim_words
from whatrims.sums import floor_of, turned_word

FLAT = ((3, 6), (4, 4), (6, 3))
BLOCK, ROW = (1, 2) * 4, (1, 2, 2, 1, 1, 2, 2, 1)


# Headings of rims on squares, and their areas: round a square once; round squares twice, with a loop the other way;
# round two, four squares the other way, with two small loops.
LOOPED = (([0, 1, 2, 3], 1), ([0, 1, 2, 3, 0, 1, 2, 3, 3, 2, 1, 0], 1),
          ([0, 0, 1, 2, 2, 3, 0, 0, 1, 2, 2, 3, 3, 2, 1, 0], 3), ([0, 0, 1, 2, 3, 0, 3, 2, 2, 3, 0, 1, 2, 1], 0),
          ([0, 0, 1, 2, 3, 0, 3, 3, 2, 2, 3, 0, 1, 2, 1, 1], -2))


def word_of(headings):
    """Return the rim word on squares that leads along these headings, numbers of steps."""
    return tuple(2 - ((headings[k] - headings[k - 1] + 1) % 4 - 1) for k in range(len(headings)))


def all_words(q, b):
    """Return the ascending list of the words of b letters."""
    words = [()]
    for _ in range(b):
        words = [word + (letter,) for word in words for letter in range(1, q)]
    return words


class Drawing(unittest.TestCase):
    def test_the_turn_of_each_letter(self):
        # Two sides: the second one leads along the first step turned by letter 1.
        four = [(1, 0), (0, 1), (-1, 0), (0, -1)]
        six = [(1, 0), (0, 1), (-1, 1), (-1, 0), (0, -1), (1, -1)]
        for (p, q), steps, due in (((4, 4), four, [1, 0, -1]), ((3, 6), six, [2, 1, 0, -1, -2]), ((6, 3), six, [1, -1])):
            for letter in range(1, q):
                turn = due[letter - 1]
                self.assertEqual(turns_of(p, q, (letter,) * 3), 3 * turn)
                places = drawn(p, q, (1, letter, letter))
                self.assertTrue(exactly_equal(places[:2], [(0, 0), (1, 0)]))
                for k in (1, 2):
                    step = (places[k + 1][0] - places[k][0], places[k + 1][1] - places[k][1])
                    self.assertEqual(step, steps[turn * k % len(steps)])

    def test_letter_0_is_not_turned_by_but_counts(self):
        for p, q in FLAT:
            for letter in range(1, q):
                self.assertEqual(drawn(p, q, (letter, 1, 2, 1)), drawn(p, q, (1, 1, 2, 1)))
        self.assertEqual([turns_of(4, 4, (letter, 1, 2, 1)) for letter in (1, 2, 3)], [3, 2, 1])

    def test_whole_drawings(self):
        self.assertTrue(exactly_equal(drawn(4, 4, BLOCK), [(0, 0), (1, 0), (2, 0), (2, 1), (2, 2), (1, 2), (0, 2),
                                                           (0, 1), (0, 0)]))
        self.assertTrue(exactly_equal(drawn(3, 6, (1, 1, 1)), [(0, 0), (1, 0), (0, 1), (0, 0)]))
        self.assertTrue(exactly_equal(drawn(3, 6, (5, 5, 4)), [(0, 0), (1, 0), (1, -1), (0, -1)]))
        self.assertTrue(exactly_equal(drawn(6, 3, (2, 2, 2)), [(0, 0), (1, 0), (2, -1), (2, -2)]))

    def test_homes(self):
        for p, q, word, due in ((4, 4, (1,) * 4, True), (4, 4, (1,) * 8, False), (4, 4, (3,) * 4, False),
                                (4, 4, (1, 1, 1), False), (4, 4, (1, 1, 1, 2, 1), False), (4, 4, (1, 3, 1, 1) * 2, True),
                                (3, 6, (1,) * 3, True), (3, 6, (1,) * 6, False), (3, 6, (5,) * 3, False),
                                (3, 6, (2,) * 6, True), (6, 3, (1,) * 6, True), (6, 3, (1,) * 12, False),
                                (6, 3, (2,) * 6, False), (6, 3, (1,) * 5, False), (3, 6, (1, 2, 2, 1), False)):
            self.assertIs(comes_home(p, q, word), due, (p, q, word))

    def test_home_is_the_last_place_and_the_turns(self):
        for p, q, whole, b in ((4, 4, 4, 6), (3, 6, 6, 4), (6, 3, 6, 10)):
            for word in all_words(q, b):
                due = drawn(p, q, word)[b] == (0, 0) and turns_of(p, q, word) == whole
                self.assertIs(comes_home(p, q, word), due)

    def test_touches(self):
        self.assertEqual(touches(4, 4, (1, 3, 1, 1) * 2), [(1, 5)])
        self.assertEqual(touches(4, 4, (1,) * 8), [(0, 4), (1, 5), (2, 6), (3, 7)])
        self.assertEqual(touches(3, 6, (1,) * 9), [(0, 3), (0, 6), (1, 4), (1, 7), (2, 5), (2, 8), (3, 6), (4, 7), (5, 8)])
        self.assertEqual(touches(6, 3, (1,) * 7), [(0, 6)])
        # The last place is not that of a corner of its own.
        self.assertTrue(exactly_equal(touches(6, 3, (1,) * 6), []))


class Areas(unittest.TestCase):
    def test_cross_sums(self):
        square = [(0, 0), (2, 0), (2, 3), (0, 3), (0, 0)]
        self.assertEqual(cross_sum(square), 12)
        self.assertEqual(cross_sum(tuple(square)), 12)
        self.assertEqual(cross_sum([[0, 0], [1, 0], [1, 1], [0, 0]]), 1)
        self.assertEqual(cross_sum(square[::-1]), -12)
        self.assertEqual(cross_sum(square + square[1:]), 24)
        self.assertEqual(cross_sum([(x + 5, y - 7) for x, y in square]), 12)
        self.assertEqual([cross_sum([(3, 4), (3, 4)]), cross_sum([(1, 1)])], [0, 0])
        self.assertEqual(square, [(0, 0), (2, 0), (2, 3), (0, 3), (0, 0)])

    def test_areas_of_one_tile(self):
        self.assertEqual([area_of(4, 4, (1,) * 4), area_of(3, 6, (1,) * 3), area_of(6, 3, (1,) * 6)], [1, 1, 1])

    def test_areas_of_discs(self):
        for p, q in FLAT:
            for gluing in discs_of(p, q, 4):
                word = rim_words(gluing)[0]
                self.assertIs(comes_home(p, q, word), True)
                self.assertTrue(exactly_equal(area_of(p, q, word), len(gluing[0])))
                for k in range(len(word)):
                    self.assertEqual(area_of(p, q, turned_word(word, k)), len(gluing[0]))

    def test_areas_gone_round_twice_or_the_other_way(self):
        for headings, area in LOOPED:
            word = word_of(headings)
            self.assertTrue(3 <= len(word) <= 16 and set(word) <= {1, 2, 3})
            self.assertIs(comes_home(4, 4, word), True)
            self.assertTrue(exactly_equal(area_of(4, 4, word), area), headings)
            if area < 1:
                self.assertTrue(exactly_equal(size_of(4, 4, word), ("none", ("area", area))))

    def test_areas_count_how_often_the_drawing_goes_round(self):
        for word in all_words(4, 8):
            if comes_home(4, 4, word):
                places = drawn(4, 4, word)
                # A side that leads up has each square of its row on its left hand, counted from the first column.
                due = sum(x * (w - y) for (x, y), (u, w) in zip(places, places[1:]))
                self.assertEqual(area_of(4, 4, word), due)

    def test_areas_are_integers(self):
        for p, q, b, scale in ((3, 6, 6, 1), (4, 4, 8, 2), (6, 3, 14, 6)):
            for word in all_words(q, b):
                if comes_home(p, q, word):
                    self.assertEqual(cross_sum(drawn(p, q, word)) % scale, 0, word)
                    self.assertEqual(area_of(p, q, word), cross_sum(drawn(p, q, word)) // scale)


class Sizes(unittest.TestCase):
    def test_discs_tell_their_sizes(self):
        for p, q in ((3, 3), (3, 4), (3, 5), (4, 3), (5, 3), (3, 6), (4, 4), (6, 3), (3, 7), (7, 3), (4, 5), (5, 4)):
            for gluing in discs_of(p, q, 4):
                word = rim_words(gluing)[0]
                tiles, _, _, inner = counts(gluing)
                self.assertTrue(exactly_equal(size_of(p, q, word), ("size", tiles, inner)), (p, q, gluing))

    def test_round_floors(self):
        self.assertEqual(size_of(5, 3, (2,) * 5), ("size", 11, 15))
        self.assertEqual(size_of(4, 3, (1, 2, 1, 1, 2, 1)), ("size", 2, 0))
        self.assertEqual(size_of(4, 3, (2, 1, 2, 2, 1, 2)), ("size", 4, 2))
        self.assertEqual(size_of(3, 3, (2, 2, 2)), ("size", 3, 1))
        self.assertEqual(size_of(4, 3, (1, 1, 1)), ("none", ((3, 2), (1, 1))))
        self.assertEqual(size_of(5, 3, (1,) * 8), ("none", ((-2, 1), (-6, 1))))
        self.assertEqual(size_of(4, 3, (1,) * 6), ("none", ((0, 1), (-2, 1))))

    def test_wide_floors(self):
        self.assertEqual(size_of(7, 3, (1, 2, 1, 1, 1, 1) * 2), ("size", 2, 0))
        self.assertEqual(size_of(4, 5, (1, 1, 1)), ("none", ((-1, 2), (-1, 1))))
        self.assertEqual(size_of(3, 7, (2,) * 7), ("size", 7, 1))
        self.assertEqual(size_of(7, 3, (1, 1, 1)), ("none", ((-3, 1), (-8, 1))))
        self.assertEqual(size_of(3, 7, (1, 1, 1, 1)), ("size", 6, 2))

    def test_fractions_told_by_the_formulas(self):
        for p, q, b in ((3, 3, 5), (4, 3, 6), (5, 3, 6), (3, 5, 4), (3, 7, 4), (7, 3, 8), (4, 5, 5), (12, 12, 3), (5, 8, 4)):
            for word in all_words(q, b):
                tiles = Fraction(2 * q - q * b + 2 * sum(word), 2 * p + 2 * q - p * q)
                inner = 1 - Fraction(b, 2) + tiles * (Fraction(p, 2) - 1)
                if tiles.denominator == 1 and tiles >= 1 and inner.denominator == 1 and inner >= 0:
                    due = ("size", tiles.numerator, inner.numerator)
                else:
                    due = ("none", ((tiles.numerator, tiles.denominator), (inner.numerator, inner.denominator)))
                self.assertTrue(exactly_equal(size_of(p, q, word), due), (p, q, word))

    def test_flat_floors_each_why(self):
        for p, q, word, due in ((4, 4, (1, 1, 1), ("turns", 3)), (4, 4, (3, 3, 3), ("turns", -3)),
                                (3, 6, (1, 1, 1, 1), ("turns", 8)), (6, 3, (1, 2, 1), ("turns", 1)),
                                (4, 4, (2, 1, 1, 1, 1), ("open", (1, 0))), (3, 6, (1, 2, 1, 2, 3), ("open", (1, 0))),
                                (4, 4, (1, 3, 1, 1) * 2, ("area", 2))):
            told = size_of(p, q, word)
            self.assertEqual(told[0], "none", (p, word))
            if due[0] == "open":
                self.assertEqual(told, ("none", ("open", drawn(p, q, word)[-1])))
            else:
                self.assertTrue(exactly_equal(told, ("none", due)), (p, word, told))

    def test_flat_floors_by_the_order_of_the_list(self):
        for p, q, whole, b in ((4, 4, 4, 7), (4, 4, 4, 8), (3, 6, 6, 5), (3, 6, 6, 6), (6, 3, 6, 10), (6, 3, 6, 14)):
            for word in all_words(q, b):
                turns, last = turns_of(p, q, word), drawn(p, q, word)[-1]
                if turns != whole:
                    due = ("none", ("turns", turns))
                elif last != (0, 0):
                    due = ("none", ("open", last))
                else:
                    tiles = area_of(p, q, word)
                    inner = 1 - Fraction(b, 2) + tiles * (Fraction(p, 2) - 1)
                    good = tiles >= 1 and inner >= 0 and inner.denominator == 1
                    due = ("size", tiles, inner.numerator) if good else ("none", ("area", tiles))
                self.assertTrue(exactly_equal(size_of(p, q, word), due), (p, q, word))


class Unlike(unittest.TestCase):
    def test_off_the_flat_kinds(self):
        for p in range(3, 13):
            for q in range(3, 13):
                if (p, q) not in FLAT:
                    self.assertIsNone(unlike_sizes(p, q))
                    self.assertIsNone(judge_unlike(p, q, None))

    def test_on_each_flat_kind(self):
        for p, q in FLAT:
            value = unlike_sizes(p, q)
            self.assertEqual((type(value), len(value), value[0]), (tuple, 3, "words"))
            for word in value[1:]:
                self.assertIsInstance(word, tuple)
                self.assertTrue(3 <= len(word) <= 16 and all(type(n) is int and 1 <= n < q for n in word))
            self.assertEqual(len(value[1]), len(value[2]))
            self.assertEqual(sum(value[1]), sum(value[2]))
            sizes = [size_of(p, q, word) for word in value[1:]]
            self.assertEqual([size[0] for size in sizes], ["size", "size"])
            self.assertNotEqual(sizes[0][1], sizes[1][1])
            self.assertIsNone(judge_unlike(p, q, value))
            self.assertIsNone(judge_unlike(p, q, ("words", value[2], value[1])))
            self.assertEqual(judge_unlike(p, q, None), ("flat",))

    def test_what_has_no_right_form(self):
        for value in (True, False, 0, 1, "words", "", [], (), {}, ("words",), ("words", BLOCK), ("words", BLOCK, ROW, ROW),
                      ["words", BLOCK, ROW], ("word", BLOCK, ROW), (None, BLOCK, ROW), (True, BLOCK, ROW),
                      ("words", list(BLOCK), ROW), ("words", BLOCK, list(ROW)), ("words", BLOCK, None),
                      ("words", 1, 2), ("words", (True, 2) + BLOCK[2:], ROW), ("words", BLOCK, ROW[:-1] + (True,)),
                      ("words", (0,) + BLOCK[1:], ROW), ("words", (4,) + BLOCK[1:], ROW), ("words", (-1,) * 8, ROW),
                      ("words", BLOCK, (4,) * 8), ("words", BLOCK, (1, 1)), ("words", (), ()), ("words", (1,) * 17, ROW),
                      ("words", BLOCK, ("1",) * 8), ("words", BLOCK, ((1,),) * 8), ("words", BLOCK, (10 ** 39,) * 8),
                      ("words", (False, 2, 1), ROW)):
            self.assertEqual(judge_unlike(4, 4, value), ("form",), value)

    def test_letters_as_the_kind_lets(self):
        self.assertEqual(judge_unlike(6, 3, ("words", (3, 1, 1), (1, 1, 1))), ("form",))
        self.assertEqual(judge_unlike(6, 3, ("words", (2, 1, 1), (1, 1, 1))), ("total",))
        self.assertEqual(judge_unlike(3, 6, ("words", (5, 1, 1), (1, 1, 1))), ("total",))
        self.assertEqual(judge_unlike(3, 6, ("words", (6, 1, 1), (1, 1, 1))), ("form",))
        self.assertEqual(judge_unlike(4, 4, ("words", (1,) * 16, (1,) * 16)), ("size", 0))

    def test_other_kinds_let_nothing_but_none(self):
        for p, q in ((7, 3), (5, 3), (4, 5)):
            for value in (("words", (1, 1, 2), (1, 2, 1)), True, 0, (), "words", unlike_sizes(4, 4)):
                self.assertEqual(judge_unlike(p, q, value), ("form",))

    def test_each_fault_ahead_of_the_next_one(self):
        for value, due in ((("words", BLOCK, (3, 3, 3)), ("length",)), (("words", BLOCK, (1,) * 8), ("total",)),
                           (("words", (2,) * 6, (2,) * 5 + (1,)), ("total",)), (("words", (1, 1, 1), (1, 1, 1)), ("size", 0)),
                           (("words", (2, 1, 1, 2, 2, 1, 2, 1), ROW), ("size", 0)),
                           (("words", ROW, (2, 1, 1, 2, 2, 1, 2, 1)), ("size", 1)),
                           (("words", BLOCK, BLOCK), ("alike", 4)), (("words", ROW, turned_word(ROW, 3)), ("alike", 3)),
                           (("words", BLOCK, turned_word(ROW, 1)), None)):
            self.assertTrue(exactly_equal(judge_unlike(4, 4, value), due), (value, judge_unlike(4, 4, value)))


class Lists(unittest.TestCase):
    def test_words_each_its_own_least_turn(self):
        for p, q, b in ((4, 4, 8), (3, 6, 5), (6, 3, 14), (5, 3, 5), (4, 3, 6), (3, 7, 4), (7, 3, 7), (4, 5, 6)):
            due = []
            for word in all_words(q, b):
                if word == min(word[k:] + word[:k] for k in range(b)) and size_of(p, q, word)[0] == "size":
                    due.append(word)
            self.assertTrue(exactly_equal(sized_words(p, q, b), due), (p, q, b))
            self.assertTrue(exactly_equal(sizes_told(p, q, b), sorted({size_of(p, q, word)[1] for word in due})))

    def test_told_by_hand(self):
        self.assertEqual(sized_words(6, 3, 10), [(1, 1, 1, 1, 2, 1, 1, 1, 1, 2)])
        self.assertEqual([sized_words(6, 3, 6), sized_words(6, 3, 7), sized_words(4, 4, 5)], [[(1,) * 6], [], []])
        self.assertEqual([sizes_told(6, 3, 14), sizes_told(4, 4, 7), sizes_told(3, 6, 6)], [[3, 4], [], [4, 6]])
        self.assertEqual(sized_words(3, 6, 3), [(1, 1, 1)])
        self.assertEqual([sized_words(5, 3, 5), sizes_told(5, 3, 5)], [
            [(1, 1, 1, 1, 1), (1, 1, 1, 1, 2), (1, 1, 1, 2, 2), (1, 1, 2, 1, 2), (1, 1, 2, 2, 2), (1, 2, 1, 2, 2),
             (1, 2, 2, 2, 2), (2, 2, 2, 2, 2)], [1, 3, 5, 7, 9, 11]])

    def test_just_within_and_just_beyond_the_bound(self):
        for q, most in ((3, 14), (4, 9), (5, 7), (6, 6), (7, 5), (8, 5), (9, 4), (12, 4)):
            self.assertIsInstance(sized_words(12, q, most), list)
            self.assertIsInstance(sizes_told(12, q, most), list)
            for b in range(most + 1, 17):
                for p in (3, 4, 6, 12):
                    for call in (sized_words, sizes_told):
                        with self.assertRaises(TooMany):
                            call(p, q, b)


if __name__ == "__main__":
    unittest.main()

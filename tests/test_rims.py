"""Rims: which rim side comes next, and the letters along a rim."""

import unittest

from tests.helpers import (APART, BALL, BAND, BLOCK, FAMILY, FOLDED, FOLDED_BALL, ONE, PIERCED_TORUS, TORUS, TUBE, TWO,
                           discs_of, exactly_equal)
from whatrims.corners import corner_of, corners, is_inner
from whatrims.gluings import beside, rim_sides
from whatrims.rims import next_rim_side, rim_of, rim_word, rim_words, rims


class Rims(unittest.TestCase):
    def test_whole_lists(self):
        for gluing, due, words in (
                (ONE, [((0, 0), (0, 1), (0, 2), (0, 3))], [(1, 1, 1, 1)]),
                (BLOCK, [((0, 0), (1, 0), (1, 1), (2, 1), (2, 2), (3, 2), (3, 3), (0, 3))], [(1, 2, 1, 2, 1, 2, 1, 2)]),
                (BAND, [((0, 0), (1, 0)), ((0, 2), (1, 2))], [(2, 2), (2, 2)]),
                (TUBE, [((0, 1),), ((0, 3),)], [(2,), (2,)]),
                (FOLDED, [((0, 2),)], [(2,)]),
                (PIERCED_TORUS, [((0, 4),)], [(5,)]),
                (APART, [((0, 1), (0, 2), (2, 2), (2, 0)), ((1, 0), (1, 1), (1, 2), (1, 3))],
                 [(2, 1, 2, 1), (1, 1, 1, 1)]),
                (BALL, [], []), (TORUS, [], []), (FOLDED_BALL, [], [])):
            self.assertTrue(exactly_equal(rims(gluing), due), gluing)
            self.assertTrue(exactly_equal(rim_words(gluing), words), gluing)

    def test_a_side_that_is_its_own_next_one(self):
        for gluing, side in ((FOLDED, (0, 2)), (TUBE, (0, 1)), (TUBE, (0, 3)), (PIERCED_TORUS, (0, 4))):
            self.assertEqual(next_rim_side(gluing, side), side)
            self.assertEqual(rim_of(gluing, side), (side,))

    def test_the_next_side_begins_where_one_ends(self):
        for gluing in FAMILY:
            for t, i in rim_sides(gluing):
                end = (t, (i + 1) % gluing[0][t])
                following = next_rim_side(gluing, (t, i))
                self.assertEqual(corner_of(gluing, end), corner_of(gluing, following))
                self.assertIn(following, rim_sides(gluing))

    def test_each_rim_side_in_just_one_rim(self):
        for gluing in FAMILY:
            found = rims(gluing)
            self.assertEqual(sorted([side for rim in found for side in rim]), rim_sides(gluing))
            self.assertEqual(found, sorted(found))
            for rim in found:
                self.assertEqual(rim[0], min(rim))
                self.assertEqual([next_rim_side(gluing, side) for side in rim], list(rim[1:] + rim[:1]))

    def test_rim_of_each_side(self):
        for gluing in FAMILY:
            for rim in rims(gluing):
                for k, side in enumerate(rim):
                    self.assertTrue(exactly_equal(rim_of(gluing, side), rim[k:] + rim[:k]))

    def test_words_letter_by_letter(self):
        for gluing in FAMILY:
            for side in rim_sides(gluing):
                due = tuple(len(corner_of(gluing, each)) for each in rim_of(gluing, side))
                self.assertTrue(exactly_equal(rim_word(gluing, side), due))
            self.assertEqual(rim_words(gluing), [rim_word(gluing, rim[0]) for rim in rims(gluing)])

    def test_letters_count_the_shares_of_rim_corners(self):
        for gluing in FAMILY:
            letters = [letter for word in rim_words(gluing) for letter in word]
            due = [len(corner) for corner in corners(gluing) if not is_inner(gluing, corner)]
            self.assertEqual(sorted(letters), sorted(due))

    def test_words_of_discs(self):
        self.assertEqual([rim_word(TWO, side) for side in rims(TWO)[0]],
                         [(1, 2, 1, 1, 2, 1), (2, 1, 1, 2, 1, 1), (1, 1, 2, 1, 1, 2), (1, 2, 1, 1, 2, 1),
                          (2, 1, 1, 2, 1, 1), (1, 1, 2, 1, 1, 2)])
        for gluing in discs_of(4, 4, 3):
            self.assertEqual(len(rims(gluing)), 1)
            self.assertEqual(sum(rim_words(gluing)[0]), 4 * len(gluing[0]))

    def test_side_by_side(self):
        both = beside(BAND, BLOCK)
        self.assertEqual(rims(both), rims(BAND) + [tuple((t + 2, i) for t, i in rim) for rim in rims(BLOCK)])
        self.assertEqual(rim_words(both), rim_words(BAND) + rim_words(BLOCK))


if __name__ == "__main__":
    unittest.main()

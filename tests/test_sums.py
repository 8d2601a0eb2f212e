"""Sums over tiles, corners and rims; words turned about."""

import unittest

from tests.helpers import (APART, BALL, BAND, BLOCK, FAMILY, NAMED, ONE, PIERCED_TORUS, TETRAHEDRON, TORUS, TWO,
                           discs_of, exactly_equal)
from whatrims.corners import corners, is_inner
from whatrims.gluings import beside
from whatrims.pieces import counts, worth
from whatrims.rims import rim_words
from whatrims.sums import (back_word, ball_counts, corners_gap, corners_sum, floor_of, least_turn, over_corners,
                           over_tiles, rim_corners_sum, rim_length, rim_sum, tiles_sum, turned_word, worth_corners,
                           worth_sum)

BALLS = {(3, 3): (4, 6, 4), (3, 4): (8, 12, 6), (4, 3): (6, 12, 8), (3, 5): (20, 30, 12), (5, 3): (12, 30, 20)}
KINDS = ((3, 3), (4, 3), (3, 5), (4, 4), (3, 6), (6, 3), (4, 5), (7, 3), (3, 7))


class Floors(unittest.TestCase):
    def test_all_kinds(self):
        for p in range(3, 13):
            for q in range(3, 13):
                due = "flat" if (p, q) in ((3, 6), (4, 4), (6, 3)) else "ball" if (p, q) in BALLS else "wide"
                self.assertEqual(floor_of(p, q), due)
                self.assertTrue(exactly_equal(ball_counts(p, q), BALLS.get((p, q))))


class Words(unittest.TestCase):
    def test_turned_by_each_number(self):
        word = (3, 1, 4, 1, 5)
        self.assertTrue(exactly_equal([turned_word(word, k) for k in range(5)],
                                      [(3, 1, 4, 1, 5), (1, 4, 1, 5, 3), (4, 1, 5, 3, 1), (1, 5, 3, 1, 4),
                                       (5, 3, 1, 4, 1)]))

    def test_least_turns(self):
        for word, due in (((1, 1, 1), (1, 1, 1)), ((3, 2, 1), (1, 3, 2)), ((2, 1, 2, 1, 1), (1, 1, 2, 1, 2)),
                          ((2, 1, 2, 1), (1, 2, 1, 2)), ((1, 2, 1, 1, 2, 1), (1, 1, 2, 1, 1, 2)),
                          ((11, 2, 10), (2, 10, 11)), ((1, 11, 1, 2), (1, 2, 1, 11)), ((2,) * 16, (2,) * 16)):
            self.assertTrue(exactly_equal(least_turn(word), due))
            for k in range(len(word)):
                self.assertEqual(least_turn(turned_word(word, k)), due)

    def test_read_from_behind(self):
        self.assertTrue(exactly_equal(back_word((1, 2, 3, 3)), (3, 3, 2, 1)))
        self.assertEqual(back_word(back_word((5, 1, 4))), (5, 1, 4))


class Sums(unittest.TestCase):
    def test_told_by_hand(self):
        self.assertEqual([tiles_sum(gluing, 4) for gluing in (ONE, TWO, APART, BALL, PIERCED_TORUS)], [0, 0, 4, 4, -2])
        self.assertEqual([tiles_sum(gluing, 3) for gluing in (ONE, TWO, APART, BALL)], [2, 4, 8, 6])
        self.assertEqual([over_corners(gluing, 4) for gluing in (ONE, BLOCK, BALL, TORUS, TETRAHEDRON)],
                         [0, 0, -6, 0, -4])
        self.assertEqual([corners_sum(gluing, 3) for gluing in (ONE, BLOCK, BALL, TETRAHEDRON)], [0, 2, 12, 12])
        self.assertEqual([over_tiles(gluing, 4) for gluing in (ONE, APART, BALL, PIERCED_TORUS)], [0, -2, -2, 1])
        self.assertEqual([worth_sum(gluing, 3) for gluing in (ONE, BAND, BALL, TORUS)], [2, 4, 12, 0])
        self.assertEqual([worth_corners(gluing, 3) for gluing in (ONE, BAND, BALL, TORUS)], [-2, -4, 12, 0])

    def test_by_what_they_are_said_to_be(self):
        for gluing in FAMILY:
            inner = [len(corner) for corner in corners(gluing) if is_inner(gluing, corner)]
            letters = [letter for word in rim_words(gluing) for letter in word]
            for n in (3, 4, 7):
                self.assertEqual(tiles_sum(gluing, n), sum(2 * n - (n - 2) * s for s in gluing[0]))
                self.assertEqual(over_corners(gluing, n), sum(d - n for d in inner))
                self.assertEqual(worth_sum(gluing, n), 2 * n * worth(gluing) - n * len(letters) + 2 * sum(letters))
                self.assertEqual(corners_sum(gluing, n), sum(2 * n - (n - 2) * d for d in inner))
                self.assertEqual(worth_corners(gluing, n),
                                 2 * n * worth(gluing) - n * len(letters) + (n - 2) * sum(letters))
                self.assertEqual(over_tiles(gluing, n), sum(s - n for s in gluing[0]))
                self.assertEqual(corners_gap(gluing, n), corners_sum(gluing, n) - worth_corners(gluing, n))

    def test_what_the_document_says_of_all_gluings(self):
        for gluing in FAMILY + [beside(one, other) for one in NAMED for other in NAMED]:
            for n in range(3, 13):
                self.assertEqual(tiles_sum(gluing, n), worth_sum(gluing, n) + 2 * over_corners(gluing, n))
                self.assertEqual(corners_gap(gluing, n), 2 * over_tiles(gluing, n))

    def test_rims_of_discs(self):
        for p, q in KINDS:
            for gluing in discs_of(p, q, 3):
                word = rim_words(gluing)[0]
                tiles, _, _, inner = counts(gluing)
                self.assertEqual(rim_sum(q, word), tiles_sum(gluing, q))
                self.assertEqual(rim_corners_sum(p, word), corners_sum(gluing, p))
                self.assertEqual(rim_length(p, tiles, inner), len(word))

    def test_lengths(self):
        self.assertEqual([rim_length(p, n, v) for p, n, v in ((3, 1, 0), (4, 2, 0), (3, 6, 1), (6, 10000, 10000))],
                         [3, 6, 6, 20002])
        self.assertEqual(rim_sum(4, (1, 1, 1)), 2)
        self.assertEqual(rim_corners_sum(5, (1, 2, 1)), 7)


if __name__ == "__main__":
    unittest.main()

"""Pieces, counts, discs and balls, kinds, and what lies how far apart."""

import unittest

from tests.helpers import (APART, BALL, BAND, BLOCK, FAMILY, FOLDED, FOLDED_BALL, NAMED, ONE, PIERCED_TORUS,
                           TETRAHEDRON, TORUS, TUBE, TWO, discs_of, exactly_equal)
from whatrims.corners import corners, is_inner
from whatrims.gluings import beside, mate_of
from whatrims.pieces import (apart, counts, handles, is_ball, is_disc, is_of, kind_fault, layers, over_sides, pieces,
                             touching, twice, worth)
from whatrims.rims import rims

# A row of five tiles, and a ring of five with one more on its outside.
ROW = ((4,) * 5, tuple(((t, 1), (t + 1, 3)) for t in range(4)))
RING = ((4,) * 6, tuple(sorted([((t, 1), (t + 1, 3)) for t in range(4)] + [((0, 3), (4, 1)), ((2, 0), (5, 2))])))
# One piece, no rim, no tile twice at a corner, but a worth of 0: four squares on a torus of two by two.
FOUR_TORUS = ((4, 4, 4, 4), (((0, 0), (2, 2)), ((0, 1), (1, 3)), ((0, 2), (2, 0)), ((0, 3), (1, 1)),
                             ((1, 0), (3, 2)), ((1, 2), (3, 0)), ((2, 1), (3, 3)), ((2, 3), (3, 1))))


def ringed_about(gluing, t):
    """Return the corners round a tile, found from the list of all."""
    return [corner for corner in corners(gluing) if any(u == t for u, _ in corner)]


class Pieces(unittest.TestCase):
    def test_pieces(self):
        self.assertTrue(exactly_equal(pieces(APART), [(0, 2), (1,)]))
        self.assertEqual(pieces(((3, 3, 3), ())), [(0,), (1,), (2,)])
        self.assertEqual(pieces(((3, 3, 3, 3), (((0, 0), (3, 0)), ((1, 0), (2, 0))))), [(0, 3), (1, 2)])
        self.assertEqual(pieces(((3, 3, 3, 3), (((0, 0), (3, 0)), ((1, 0), (2, 0)), ((2, 1), (3, 1))))), [(0, 1, 2, 3)])
        self.assertEqual(pieces(TORUS), [(0,)])

    def test_pieces_are_what_ties_lead_to(self):
        for gluing in FAMILY:
            found = pieces(gluing)
            self.assertEqual(sorted([t for piece in found for t in piece]), list(range(len(gluing[0]))))
            self.assertEqual(found, sorted(tuple(sorted(piece)) for piece in found))
            for t in range(len(gluing[0])):
                for u in range(len(gluing[0])):
                    together = any(t in piece and u in piece for piece in found)
                    self.assertEqual(together, apart(gluing, t, u) is not None)

    def test_counts(self):
        for gluing, due in ((ONE, (1, 4, 4, 0)), (TWO, (2, 7, 6, 0)), (BLOCK, (4, 12, 9, 1)), (BALL, (2, 3, 3, 3)),
                            (TORUS, (1, 2, 1, 1)), (BAND, (2, 6, 4, 0)), (APART, (3, 9, 8, 0)), (FOLDED, (1, 2, 2, 1)),
                            (TUBE, (1, 3, 2, 0)), (TETRAHEDRON, (4, 6, 4, 4)), (PIERCED_TORUS, (1, 3, 1, 0))):
            self.assertTrue(exactly_equal(counts(gluing), due), gluing)

    def test_worth(self):
        for gluing, due in ((ONE, 1), (BLOCK, 1), (BAND, 0), (TUBE, 0), (TORUS, 0), (BALL, 2), (FOLDED, 1),
                            (FOLDED_BALL, 2), (PIERCED_TORUS, -1), (APART, 2), (FOUR_TORUS, 0), (RING, 0)):
            self.assertEqual(worth(gluing), due, gluing)

    def test_worths_side_by_side_add_up(self):
        for one in NAMED:
            for other in NAMED:
                self.assertEqual(worth(beside(one, other)), worth(one) + worth(other))

    def test_handles(self):
        for gluing, due in ((ONE, 0), (BAND, 0), (BALL, 0), (TORUS, 1), (PIERCED_TORUS, 1), (FOUR_TORUS, 1), (TUBE, 0),
                            (FOLDED, 0), (RING, 0), (((8,), tuple(((0, i), (0, i + 2)) for i in (0, 1, 4, 5))), 2)):
            self.assertTrue(exactly_equal(handles(gluing), due), gluing)

    def test_handles_are_whole_and_not_below_0(self):
        for gluing in FAMILY:
            if len(pieces(gluing)) == 1:
                self.assertGreaterEqual(handles(gluing), 0)
                self.assertEqual(2 - 2 * handles(gluing) - len(rims(gluing)), worth(gluing))

    def test_twice(self):
        for gluing, due in ((ONE, []), (BAND, []), (TUBE, [0]), (TORUS, [0]), (FOLDED, [0]), (BALL, []),
                            (FOUR_TORUS, []), (beside(ONE, TUBE), [1]), (beside(TORUS, FOLDED), [0, 1])):
            self.assertTrue(exactly_equal(twice(gluing), due), gluing)
        for gluing in FAMILY:
            due = {t for corner in corners(gluing) for t, _ in corner if [u for u, _ in corner].count(t) > 1}
            self.assertEqual(twice(gluing), sorted(due))


class DiscsAndBalls(unittest.TestCase):
    def test_discs(self):
        for gluing in discs_of(4, 4, 3) + discs_of(3, 7, 4) + discs_of(5, 3, 4):
            self.assertIs(is_disc(gluing), True)
            self.assertIs(is_ball(gluing), False)

    def test_balls(self):
        for gluing in (BALL, TETRAHEDRON):
            self.assertIs(is_ball(gluing), True)
            self.assertIs(is_disc(gluing), False)

    def test_what_fails_at_one_condition(self):
        # (gluing, pieces, rims, worth, twice): a disc has 1, 1, 1, [], a ball 1, 0, 2, [].
        for gluing, due in ((FOLDED, (1, 1, 1, [0])), (beside(ONE, FOUR_TORUS), (2, 1, 1, [])),
                            (BAND, (1, 2, 0, [])), (beside(ONE, ONE), (2, 2, 2, [])), (FOLDED_BALL, (1, 0, 2, [0])),
                            (FOUR_TORUS, (1, 0, 0, [])), (PIERCED_TORUS, (1, 1, -1, [0])), (TORUS, (1, 0, 0, [0])),
                            (beside(BALL, FOUR_TORUS), (2, 0, 2, [])), (beside(BALL, BALL), (2, 0, 4, []))):
            told = (len(pieces(gluing)), len(rims(gluing)), worth(gluing), twice(gluing))
            self.assertEqual(told, due, gluing)
            self.assertIs(is_disc(gluing), False)
            self.assertIs(is_ball(gluing), False)

    def test_by_the_four_conditions(self):
        for gluing in FAMILY:
            told = (len(pieces(gluing)), len(rims(gluing)), worth(gluing), twice(gluing))
            self.assertIs(is_disc(gluing), told == (1, 1, 1, []))
            self.assertIs(is_ball(gluing), told == (1, 0, 2, []))

    def test_a_handle_with_a_rim_and_no_tile_twice_is_no_disc(self):
        # Nine squares on a torus of three by three, one of them gone.
        ties = []
        for x in range(3):
            for y in range(3):
                ties += [((x + 3 * y, 1), ((x + 1) % 3 + 3 * y, 3)), ((x + 3 * y, 2), (x + 3 * ((y + 1) % 3), 0))]
        ties = sorted(tuple(sorted(tie)) for tie in ties if all(t < 8 for t, _ in tie))
        gluing = ((4,) * 8, tuple(ties))
        self.assertEqual((len(pieces(gluing)), len(rims(gluing)), worth(gluing), twice(gluing)), (1, 1, -1, []))
        self.assertIs(is_disc(gluing), False)


class Kinds(unittest.TestCase):
    def test_each_fault_ahead_of_the_next_one(self):
        # Two blocks of four squares, apart: the inner corner of the first one comes first.
        blocks = beside(BLOCK, BLOCK)
        inner = ((0, 2), (3, 1), (2, 0), (1, 3))
        for gluing, p, q, due in ((BLOCK, 4, 4, None), (ONE, 4, 3, None), (BLOCK, 5, 4, ("tile", 0)),
                                  (((4, 5, 6), ()), 4, 3, ("tile", 1)), (((4, 4, 5), ()), 4, 3, ("tile", 2)),
                                  (beside(BLOCK, ((5,), ())), 4, 3, ("tile", 4)), (BLOCK, 4, 3, ("inner", inner)),
                                  (BLOCK, 4, 5, ("inner", inner)), (blocks, 4, 5, ("inner", inner)),
                                  (beside(TWO, BLOCK), 4, 5, ("inner", tuple((t + 2, i) for t, i in inner))),
                                  (FOLDED, 3, 3, ("inner", ((0, 1),))), (TUBE, 4, 3, None), (TORUS, 4, 4, None),
                                  (PIERCED_TORUS, 5, 6, None), (PIERCED_TORUS, 5, 5, ("rim", corners(PIERCED_TORUS)[0])),
                                  (BALL, 3, 3, ("inner", ((0, 0), (1, 1))))):
            self.assertTrue(exactly_equal(kind_fault(gluing, p, q), due), (gluing, p, q))
            self.assertIs(is_of(gluing, p, q), due is None)

    def test_rim_corners_as_great_as_inner_ones_may_be(self):
        three = ((4, 4, 4), (((0, 1), (1, 3)), ((0, 2), (2, 0))))
        letter_three = ((1, 3), (0, 2), (2, 1))
        self.assertIsNone(kind_fault(three, 4, 4))
        self.assertEqual(kind_fault(three, 4, 3), ("rim", letter_three))
        # The first rim corner with three or more: the least share counts, though another one begins it.
        self.assertEqual(kind_fault(beside(ONE, three), 4, 3), ("rim", ((2, 3), (1, 2), (3, 1))))

    def test_an_inner_fault_ahead_of_a_rim_one_with_a_lesser_share(self):
        star = ((3,) * 4, (((0, 0), (1, 1)), ((1, 0), (2, 1)), ((3, 0), (3, 1))))
        rim = [corner for corner in corners(star) if len(corner) == 3][0]
        self.assertLess(min(rim), (3, 1))
        self.assertEqual(kind_fault(star, 3, 3), ("inner", ((3, 1),)))

    def test_the_first_faults_of_all_sorts(self):
        for gluing in FAMILY:
            for p, q in ((3, 3), (3, 6), (4, 4), (5, 3)):
                tiles = [("tile", t) for t, s in enumerate(gluing[0]) if s != p]
                inner = [("inner", c) for c in corners(gluing) if is_inner(gluing, c) and len(c) != q]
                rim = [("rim", c) for c in corners(gluing) if not is_inner(gluing, c) and len(c) > q - 1]
                self.assertEqual(kind_fault(gluing, p, q), (tiles + inner + rim + [None])[0])


class Neighbours(unittest.TestCase):
    def test_over_sides(self):
        for gluing, t, due in ((ONE, 0, (None,) * 4), (TORUS, 0, (0, 0, 0, 0)), (FOLDED, 0, (0, 0, None)),
                               (BAND, 1, (None, 0, None, 0)), (BLOCK, 2, (1, None, None, 3)), (APART, 1, (None,) * 4),
                               (APART, 2, (None, 0, None))):
            self.assertTrue(exactly_equal(over_sides(gluing, t), due), (gluing, t))
        for gluing in FAMILY:
            for t, size in enumerate(gluing[0]):
                mates = [mate_of(gluing, (t, i)) for i in range(size)]
                self.assertEqual(over_sides(gluing, t), tuple(None if mate is None else mate[0] for mate in mates))

    def test_touching(self):
        for gluing, t, due in ((ONE, 0, []), (BLOCK, 2, [0, 1, 3]), (ROW, 2, [1, 3]), (ROW, 0, [1]), (TORUS, 0, []),
                               (FOLDED, 0, []), (APART, 0, [2]), (APART, 1, []), (RING, 5, [1, 2, 3]),
                               (FOUR_TORUS, 0, [1, 2, 3])):
            self.assertTrue(exactly_equal(touching(gluing, t), due), (gluing, t))
        for gluing in FAMILY:
            for t in range(len(gluing[0])):
                due = {u for corner in ringed_about(gluing, t) for u, _ in corner if u != t}
                self.assertEqual(touching(gluing, t), sorted(due))

    def test_apart_and_layers(self):
        self.assertTrue(exactly_equal(layers(ROW, 0), [(0,), (1,), (2,), (3,), (4,)]))
        self.assertTrue(exactly_equal(layers(ROW, 2), [(2,), (1, 3), (0, 4)]))
        self.assertTrue(exactly_equal(layers(RING, 0), [(0,), (1, 4), (2, 3), (5,)]))
        self.assertTrue(exactly_equal(layers(APART, 2), [(2,), (0,)]))
        self.assertTrue(exactly_equal(layers(TORUS, 0), [(0,)]))
        # Ties lead to tile 3 ahead of tile 2.
        self.assertTrue(exactly_equal(layers(TETRAHEDRON, 0), [(0,), (1, 2, 3)]))
        self.assertTrue(exactly_equal([apart(RING, 0, t) for t in range(6)], [0, 1, 2, 2, 1, 3]))
        self.assertTrue(exactly_equal([apart(APART, 1, t) for t in range(3)], [None, 0, None]))
        self.assertTrue(exactly_equal([apart(TORUS, 0, 0), apart(ROW, 4, 0)], [0, 4]))

    def test_layers_tell_what_is_how_far_apart(self):
        for gluing in NAMED + [ROW, RING, FOUR_TORUS]:
            for t in range(len(gluing[0])):
                for u in range(len(gluing[0])):
                    self.assertEqual([n for n, lot in enumerate(layers(gluing, t)) if u in lot],
                                     [n for n in [apart(gluing, t, u)] if n is not None])
                    self.assertEqual(apart(gluing, t, u), apart(gluing, u, t))


if __name__ == "__main__":
    unittest.main()

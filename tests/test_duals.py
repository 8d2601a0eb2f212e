"""Duals of gluings."""

import unittest

from tests.helpers import BLOCK, FAMILY, TORUS, discs_of, exactly_equal
from whatrims.closed import ball_of
from whatrims.coils import coil
from whatrims.corners import inner_corners
from whatrims.duals import dual
from whatrims.errors import TooMany
from whatrims.forms import form
from whatrims.gluings import is_gluing, mirrored, named, one_tile
from whatrims.laying import laid
from whatrims.over import within_ring
from whatrims.pieces import counts, is_ball, is_of, pieces
from whatrims.rims import rim_of

BALLS = ((3, 3), (4, 3), (3, 4), (5, 3), (3, 5))


def dual_told(gluing):
    """Return the dual by the words of the point, or "many", or None."""
    found = inner_corners(gluing)
    if not found:
        return None
    if any(not 3 <= len(corner) <= 24 for corner in found):
        return "many"
    numbers = {}
    for t, corner in enumerate(found):
        # Side 0 for the first share, side 1 for the last one, side 2 for the last but one, ..
        for i, share in enumerate([corner[0]] + list(corner[:0:-1])):
            numbers[share] = (t, i)
    ties = []
    for one in numbers:
        for other in numbers:
            if numbers[one] < numbers[other] and tuple(sorted([one, other])) in gluing[1]:
                ties.append((numbers[one], numbers[other]))
    return (tuple([len(corner) for corner in found]), tuple(sorted(ties)))


def bunch(q, s=3):
    """Return q tiles of s sides about one inner corner."""
    gluing = one_tile(s)
    for t in range(1, q):
        side = (t - 1, s - 1) if t > 1 else (0, s - 1)
        rim = rim_of(gluing, side)
        gluing = laid(gluing, rim[0], 1, s) if t < q - 1 else laid(gluing, rim[0], 2, s)
    return gluing


class Dual(unittest.TestCase):
    def check(self, gluing):
        due = dual_told(gluing)
        if due == "many":
            with self.assertRaises(TooMany):
                dual(gluing)
        else:
            self.assertTrue(exactly_equal(dual(gluing), due), gluing)
            self.assertTrue(due is None or is_gluing(due))
        return due

    def test_gluings_of_all_sorts(self):
        seen = {"none": 0, "many": 0, "some": 0}
        for gluing in FAMILY:
            due = self.check(gluing)
            seen["none" if due is None else "many" if due == "many" else "some"] += 1
        self.assertTrue(min(seen.values()) > 5, seen)
        self.assertEqual(dual(TORUS), ((4,), (((0, 0), (0, 2)), ((0, 1), (0, 3)))))

    def test_no_inner_corner(self):
        for gluing in (one_tile(3), one_tile(24), ((4, 4), (((0, 1), (1, 3)),)), ((3, 3), ()), coil(7, 3, 2)):
            self.assertIsNone(dual(gluing))

    def test_discs_of_kinds(self):
        for p, q, n in ((3, 3, 3), (3, 4, 6), (4, 3, 5), (4, 4, 6), (3, 5, 6), (6, 3, 5), (5, 4, 5), (4, 5, 6)):
            for gluing in discs_of(p, q, n)[-20:]:
                due = self.check(gluing)
                if due is not None:
                    self.assertTrue(is_of(due, q, p))
                    self.assertEqual(len(due[0]), counts(gluing)[3])

    def test_rings_round_a_tile(self):
        for p, q in ((4, 4), (6, 3), (3, 6), (7, 3), (3, 7), (5, 4), (4, 5)):
            gluing = within_ring(p, q, 1)
            due = self.check(gluing)
            self.assertTrue(is_of(due, q, p))
            self.assertEqual(len(pieces(due)), 1)
            # All corners of the tile within are inner ones, and the tile is one corner of the dual.
            self.assertEqual(counts(due)[3], 1)

    def test_a_dual_of_several_pieces(self):
        # Two blocks of four squares, joined by one side.
        block = BLOCK
        for _ in range(1):
            for side in ((0, 0),):
                block = laid(block, side, 1, 4)
        whole = laid(block, (4, 1), 1, 4)
        found = self.check(whole)
        self.assertEqual(found, ((4,), ()))
        both = (BLOCK[0] * 2, BLOCK[1] + tuple([((t + 4, i), (u + 4, j)) for (t, i), (u, j) in BLOCK[1]]))
        self.assertEqual(dual(both), ((4, 4), ()))
        self.assertEqual(len(pieces(dual(both))), 2)

    def test_balls(self):
        for p, q in BALLS:
            ball = ball_of(p, q)
            found = self.check(ball)
            self.assertTrue(is_ball(found))
            self.assertEqual(form(found), ball_of(q, p))
            self.assertEqual(form(dual(found)), ball)
            self.assertEqual(form(dual(mirrored(ball))), form(mirrored(found)))
            other = named(ball, tuple(range(len(ball[0])))[::-1], (1,) * len(ball[0]))
            self.assertEqual(form(dual(other)), form(found))

    def test_a_ball_of_unlike_tiles(self):
        # A prism: two triangles and three squares, three tiles at each corner.
        prism = ((3, 4, 4, 4,
                  3), (((0, 0), (1, 0)), ((0, 1), (2, 0)), ((0, 2), (3, 0)), ((1, 1), (3, 3)), ((1, 2), (4, 0)),
                                   ((1, 3), (2, 1)), ((2, 2), (4, 2)), ((2, 3), (3, 1)), ((3, 2), (4, 1))))
        self.assertTrue(is_gluing(prism) and is_ball(prism))
        found = self.check(prism)
        self.assertEqual(found[0], (3,) * 6)
        self.assertTrue(is_ball(found))
        self.assertEqual(form(dual(found)), form(prism))

    def test_numbers_of_shares(self):
        for q in (3, 4, 23, 24):
            gluing = bunch(q)
            self.assertEqual(counts(gluing)[3], 1)
            self.assertEqual(self.check(gluing), ((q,), ()))
        for gluing in (bunch(25), bunch(26, 4), ((3, 3), (((0, 0), (1, 1)), ((0, 1), (1, 0))))):
            self.assertEqual(self.check(gluing), "many")


if __name__ == "__main__":
    unittest.main()

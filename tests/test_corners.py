"""Corners: what lies onward and backward, and each share in just one corner."""

import unittest

from tests.helpers import (APART, BALL, BAND, BLOCK, FAMILY, FOLDED, FOLDED_BALL, ONE, PIERCED_TORUS, TORUS, TUBE, TWO,
                           exactly_equal)
from whatrims.corners import backward, corner_of, corners, is_inner, onward
from whatrims.gluings import beside, mate_of, sides_of


def joined(gluing):
    """Return the lots of shares that ties lay on one another, by joining and not by going round."""
    lots = {share: {share} for share in sides_of(gluing)}
    for (t, i), (u, j) in gluing[1]:
        for one, other in (((t, i), (u, (j + 1) % gluing[0][u])), ((t, (i + 1) % gluing[0][t]), (u, j))):
            lot = lots[one] | lots[other]
            for share in lot:
                lots[share] = lot
    return lots


class Steps(unittest.TestCase):
    def test_one_is_the_way_back_of_the_other(self):
        for gluing in FAMILY:
            for share in sides_of(gluing):
                ahead, behind = onward(gluing, share), backward(gluing, share)
                if ahead is not None:
                    self.assertEqual(backward(gluing, ahead), share)
                if behind is not None:
                    self.assertEqual(onward(gluing, behind), share)

    def test_none_at_rims(self):
        for gluing in FAMILY:
            for t, i in sides_of(gluing):
                self.assertEqual(onward(gluing, (t, i)) is None, mate_of(gluing, (t, i)) is None)
                ahead = (t, i - 1) if i else (t, gluing[0][t] - 1)
                self.assertEqual(backward(gluing, (t, i)) is None, mate_of(gluing, ahead) is None)

    def test_round_a_block(self):
        self.assertEqual([onward(BLOCK, share) for share in ((0, 2), (3, 1), (2, 0), (1, 3))],
                         [(3, 1), (2, 0), (1, 3), (0, 2)])
        self.assertEqual([backward(BLOCK, share) for share in ((0, 2), (1, 3), (2, 0), (3, 1))],
                         [(1, 3), (2, 0), (3, 1), (0, 2)])

    def test_a_tile_that_meets_itself(self):
        self.assertEqual([onward(FOLDED, (0, i)) for i in range(3)], [(0, 2), (0, 1), None])
        self.assertEqual([backward(FOLDED, (0, i)) for i in range(3)], [None, (0, 1), (0, 0)])


class Corners(unittest.TestCase):
    def test_whole_lists(self):
        for gluing, due in (
                (ONE, [((0, 0),), ((0, 1),), ((0, 2),), ((0, 3),)]),
                (TORUS, [((0, 0), (0, 3), (0, 2), (0, 1))]),
                (FOLDED, [((0, 0), (0, 2)), ((0, 1),)]),
                (FOLDED_BALL, [((0, 0), (0, 2)), ((0, 1),), ((0, 3),)]),
                (TUBE, [((0, 0), (0, 3)), ((0, 2), (0, 1))]),
                (BALL, [((0, 0), (1, 1)), ((0, 1), (1, 0)), ((0, 2), (1, 2))]),
                (BAND, [((1, 1), (0, 0)), ((0, 1), (1, 0)), ((1, 3), (0, 2)), ((0, 3), (1, 2))]),
                (APART, [((0, 0), (2, 2)), ((2, 1), (0, 1)), ((0, 2),), ((1, 0),), ((1, 1),), ((1, 2),), ((1, 3),),
                         ((2, 0),)]),
                (PIERCED_TORUS, [((0, 0), (0, 3), (0, 2), (0, 1), (0, 4))])):
            self.assertTrue(exactly_equal(corners(gluing), due), gluing)

    def test_each_share_in_just_one_corner(self):
        for gluing in FAMILY:
            shares = [share for corner in corners(gluing) for share in corner]
            self.assertEqual(sorted(shares), sides_of(gluing))
            leasts = [min(corner) for corner in corners(gluing)]
            self.assertEqual(leasts, sorted(leasts))

    def test_corners_are_what_ties_join(self):
        for gluing in FAMILY:
            lots = joined(gluing)
            for corner in corners(gluing):
                self.assertEqual(set(corner), lots[corner[0]])

    def test_the_order_of_shares(self):
        for gluing in FAMILY:
            for corner in corners(gluing):
                self.assertEqual([onward(gluing, share) for share in corner[:-1]], list(corner[1:]))
                home = onward(gluing, corner[-1])
                self.assertIs(is_inner(gluing, corner), home is not None)
                if home is None:
                    self.assertIsNone(backward(gluing, corner[0]))
                else:
                    self.assertEqual((home, corner[0]), (corner[0], min(corner)))

    def test_corner_of_each_of_its_shares(self):
        for gluing in FAMILY:
            for corner in corners(gluing):
                for share in corner:
                    self.assertTrue(exactly_equal(corner_of(gluing, share), corner))

    def test_inner_and_rim_corners(self):
        self.assertEqual([is_inner(BLOCK, corner) for corner in corners(BLOCK)],
                         [len(corner) == 4 for corner in corners(BLOCK)])
        self.assertEqual([is_inner(TWO, corner) for corner in corners(TWO)], [False] * 6)
        self.assertEqual([is_inner(BALL, corner) for corner in corners(BALL)], [True] * 3)
        self.assertEqual([is_inner(FOLDED, corner) for corner in corners(FOLDED)], [False, True])

    def test_side_by_side(self):
        for one in (ONE, BLOCK, TORUS, FOLDED):
            both = corners(beside(TWO, one))
            moved = [tuple((t + 2, i) for t, i in corner) for corner in corners(one)]
            self.assertEqual(both, corners(TWO) + moved)


if __name__ == "__main__":
    unittest.main()

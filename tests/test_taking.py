"""Tiles taken off discs, the layings of discs, and why a gluing is no disc."""

import unittest

from tests.helpers import (APART, BALL, BAND, BLOCK, FAMILY, FOLDED, FOLDED_BALL, ONE, PIERCED_TORUS, STRANGE,
                           TORUS, TUBE, TWO, changes, discs_of, exactly_equal)
from whatrims.corners import corner_of, is_inner
from whatrims.errors import NotLaid
from whatrims.forms import form, is_like
from whatrims.gluings import beside, mirrored, named, rim_sides
from whatrims.laying import built, is_layings, laid
from whatrims.pieces import handles, is_disc, pieces, twice
from whatrims.rims import rims
from whatrims.taking import judge_layings, layings_of, not_disc, taken, takers, takings

ROW = ((4, 4, 4), (((0, 1), (1, 3)), ((1, 1), (2, 3))))
# A triangle with one round each of its corners: all its sides are tied, its corners stand on the rim.
ONE_TRIANGLE = ((3,), ())
STAR = ((3,) * 4, (((0, 0), (1, 0)), ((0, 1), (2, 0)), ((0, 2), (3, 0))))
DISCS = discs_of(4, 4, 4) + discs_of(3, 6, 5) + discs_of(5, 3, 4) + discs_of(6, 3, 3)
MIXED_DISCS = [built(layings) for layings in (((3,), (0, 1, 5), (0, 2, 4), (1, 1, 3)), ((4,), (0, 3, 4), (0, 1, 3)),
                                              ((3,), (0, 2, 3), (1, 1, 6), (2, 4, 5), (0, 1, 24)),
                                              ((6,), (0, 5, 7), (1, 2, 3), (0, 1, 3), (2, 1, 4)))]


def slow_takers(gluing):
    """Say takers in the words of the point."""
    if len(gluing[0]) == 1:
        return []
    tiles = sorted({t for t, _ in rim_sides(gluing)})
    return [t for t in tiles if is_disc(taken(gluing, t))]


def slow_takings(gluing, numbers):
    """Return the list of all ways to take tiles, each by its number in the gluing passed."""
    if len(numbers) == 1:
        return [()]
    return [(numbers[t],) + way for t in slow_takers(gluing)
            for way in slow_takings(taken(gluing, t), numbers[:t] + numbers[t + 1:])]


def spiral(p, n, k):
    """Return a disc of n tiles of p sides, each laid on the one ahead, and on k sides."""
    gluing = ((p,), ())
    for t in range(n - 1):
        gluing = laid(gluing, (t, p - 2 if t == 0 else k + 1), 1 if t == 0 else k, p)
    return gluing


class Taken(unittest.TestCase):
    def test_numbers_anew(self):
        self.assertTrue(exactly_equal(taken(ROW, 0), ((4, 4), (((0, 1), (1, 3)),))))
        self.assertEqual(taken(ROW, 1), ((4, 4), ()))
        self.assertEqual(taken(ROW, 2), TWO)
        self.assertEqual(taken(BLOCK, 1), ((4, 4, 4), (((0, 2), (2, 0)), ((1, 3), (2, 1)))))
        self.assertEqual(taken(APART, 1), ((3, 3), (((0, 0), (1, 1)),)))
        self.assertEqual(taken(((3, 4, 5), ()), 1), ((3, 5), ()))
        self.assertEqual(taken(beside(TORUS, ONE), 1), TORUS)

    def test_all_other_tiles_and_their_ties(self):
        for gluing in FAMILY:
            for t in range(len(gluing[0])):
                if len(gluing[0]) > 1:
                    new = [u - (u > t) for u in range(len(gluing[0]))]
                    due = [((new[a], i), (new[b], j)) for (a, i), (b, j) in gluing[1] if t not in (a, b)]
                    self.assertEqual(taken(gluing, t), (gluing[0][:t] + gluing[0][t + 1:], tuple(due)))


class Takers(unittest.TestCase):
    def test_known_ones(self):
        for gluing, due in ((ONE, []), (TWO, [0, 1]), (ROW, [0, 2]), (BLOCK, [0, 1, 2, 3]), (STAR, [1, 2, 3])):
            self.assertTrue(exactly_equal(takers(gluing), due), gluing)

    def test_by_their_words(self):
        for gluing in DISCS + MIXED_DISCS:
            self.assertTrue(exactly_equal(takers(gluing), slow_takers(gluing)), gluing)
            self.assertEqual(takers(gluing) == [], len(gluing[0]) == 1)

    def test_all_sides_tied_and_one_rim_corner(self):
        # Squares laid on the star's arms in its corners: two of the corners of its middle become inner ones.
        squares = ONE_TRIANGLE
        for i in range(3):
            squares = laid(squares, (0, i), 1, 4)
        squares = laid(laid(squares, (1, 3), 2, 4), (2, 3), 2, 4)
        self.assertTrue(is_disc(squares))
        self.assertEqual([i for i in range(3) if (0, i) in rim_sides(squares)], [])
        self.assertEqual([is_inner(squares, corner_of(squares, (0, i))) for i in range(3)], [False, True, True])
        self.assertTrue(is_disc(taken(squares, 0)))
        self.assertEqual(takers(squares), slow_takers(squares))
        self.assertNotIn(0, takers(squares))
        self.assertIsNone(judge_layings(squares, layings_of(squares)))

    def test_middle_tile_of_a_star_is_no_disc_without_it(self):
        self.assertFalse(is_disc(taken(STAR, 0)))
        self.assertNotIn(0, takers(STAR))


class Takings(unittest.TestCase):
    def test_known_numbers(self):
        # A row can be taken from its two ends; of a block any tile first, then one of the two ends.
        for gluing, due in ((ONE, 1), (TWO, 2), (ROW, 4), (BLOCK, 4 * 4), (spiral(24, 8, 1), 2 ** 7)):
            self.assertTrue(exactly_equal(takings(gluing), due), gluing)

    def test_by_their_words(self):
        for gluing in DISCS[::3] + MIXED_DISCS:
            due = slow_takings(gluing, tuple(range(len(gluing[0]))))
            self.assertEqual(len(set(due)), len(due))
            self.assertEqual(takings(gluing), len(due))

    def test_eight_tiles(self):
        fan = built(((3,),) + tuple((0, 1, 3) for _ in range(7)))
        self.assertEqual(takings(fan), len(slow_takings(fan, tuple(range(8)))))


class LayingsOf(unittest.TestCase):
    def test_judged_right(self):
        for gluing in DISCS + MIXED_DISCS:
            found = layings_of(gluing)
            self.assertTrue(is_layings(found))
            self.assertEqual(sorted(entry[-1] for entry in found), sorted(gluing[0]))
            self.assertEqual(form(built(found)), form(gluing))
            self.assertIsNone(judge_layings(gluing, found))

    def test_named_otherwise(self):
        for gluing in MIXED_DISCS:
            many = len(gluing[0])
            order = tuple((3 * t + 1) % many for t in range(many)) if many % 3 else tuple(range(many))[::-1]
            other = named(gluing, order, tuple((7 * t + 2) % size for t, size in enumerate(gluing[0])))
            self.assertIsNone(judge_layings(gluing, layings_of(other)))
            self.assertIsNone(judge_layings(mirrored(gluing), layings_of(mirrored(other))))

    def test_one_tile(self):
        for s in (3, 24):
            self.assertTrue(exactly_equal(layings_of(((s,), ())), ((s,),)))

    def test_sixty_tiles(self):
        for gluing in (spiral(4, 60, 2), spiral(24, 60, 2), spiral(3, 60, 1), spiral(12, 60, 5)):
            self.assertTrue(is_disc(gluing))
            self.assertIsNone(judge_layings(gluing, layings_of(gluing)))


class JudgeLayings(unittest.TestCase):
    def test_each_fault(self):
        for value, due in ((((4,), (0, 1, 4), (4, 1, 4)), None), (((4,), (0, 1, 4)), ("unlike",)),
                           (((4,), (0, 1, 4), (0, 1, 4)), ("unlike",)), (((4,), (0, 1, 4), (1, 1, 4)), None), (((4,), (0, 1, 4), (0, 1, 3)), ("unlike",)),
                           (((4,), (0, 1, 4), (6, 1, 4)), ("laid", 2)), (((4,), (0, 4, 4), (6, 1, 4)), ("laid", 1)),
                           (((4,), (0, 1, 4), (0, 0, 4)), ("laid", 2)), (((4,), (4, 1, 4), (0, 1)), ("form",)),
                           ([(4,), (0, 1, 4), (4, 1, 4)], ("form",)), (((4,), (0, True, 4), (4, 1, 4)), ("form",)),
                           (((4,), (False, 1, 4), (4, 1, 4)), ("form",))):
            self.assertTrue(exactly_equal(judge_layings(ROW, value), due), value)

    def test_any_value(self):
        for value in STRANGE + [ROW, layings_of(ROW)[0], ("form",)]:
            self.assertEqual(judge_layings(ROW, value), ("form",))
        found = ((4,), (0, 1, 4), (4, 1, 4))
        for value in changes(found, STRANGE + [2, 3, 24, 25, (0, 1, 4)]):
            due = None
            if not is_layings(value):
                due = ("form",)
            else:
                try:
                    due = None if form(built(value)) == form(ROW) else ("unlike",)
                except NotLaid as error:
                    due = ("laid", error.number)
            self.assertTrue(exactly_equal(judge_layings(ROW, value), due), value)

    def test_many_entries(self):
        value = ((4,),) + ((0, 1, 4),) * 480
        self.assertEqual(judge_layings(ROW, value), ("unlike",))
        self.assertEqual(judge_layings(ROW, value + ((10 ** 39, 1, 4),)), ("laid", 481))


class NotDisc(unittest.TestCase):
    def test_each_fault_ahead_of_the_next_one(self):
        for gluing, due in ((ONE, None), (ROW, None), (beside(ONE, TORUS), ("pieces", [(0,), (1,)])),
                            (beside(FOLDED, FOLDED), ("pieces", [(0,), (1,)])), (APART, ("pieces", [(0, 2), (1,)])),
                            (BAND, ("rims", [((0, 0), (1, 0)), ((0, 2), (1, 2))])), (BALL, ("rims", [])),
                            (TORUS, ("rims", [])), (FOLDED_BALL, ("rims", [])), (TUBE, ("rims", [((0, 1),), ((0, 3),)])),
                            (PIERCED_TORUS, ("handles", 1)), (FOLDED, ("twice", 0)),
                            (((3, 4), (((0, 0), (1, 0)), ((1, 1), (1, 2)))), ("twice", 1))):
            self.assertTrue(exactly_equal(not_disc(gluing), due), gluing)

    def test_none_exactly_for_discs(self):
        for gluing in FAMILY + DISCS + MIXED_DISCS:
            self.assertEqual(not_disc(gluing) is None, is_disc(gluing))

    def test_by_their_words(self):
        met = set()
        for gluing in FAMILY:
            told = not_disc(gluing)
            if len(pieces(gluing)) > 1:
                due = ("pieces", pieces(gluing))
            elif len(rims(gluing)) != 1:
                due = ("rims", rims(gluing))
            elif handles(gluing):
                due = ("handles", handles(gluing))
            else:
                due = ("twice", min(twice(gluing))) if twice(gluing) else None
            self.assertTrue(exactly_equal(told, due))
            met.add(told and told[0])
        self.assertEqual(met, {None, "pieces", "rims", "handles", "twice"})

    def test_what_layings_build_is_a_disc(self):
        for gluing in DISCS[::5] + MIXED_DISCS:
            self.assertIsNone(not_disc(built(layings_of(gluing))))
            self.assertTrue(is_like(gluing, built(layings_of(gluing))))


if __name__ == "__main__":
    unittest.main()

"""Balls glued of discs, and cut along rings of sides."""

import itertools
import unittest

from tests.helpers import TETRAHEDRON, discs_of, exactly_equal
from whatrims.closed import ball_of, glued, halves, ring_fault
from whatrims.corners import corner_of, corners, inner_corners
from whatrims.errors import NotGlued
from whatrims.filling import fill
from whatrims.forms import code, form, is_like, starts
from whatrims.gluings import is_gluing, mate_of, named, next_side, one_tile, rim_sides, sides_of
from whatrims.odd import fill_with
from whatrims.pieces import is_ball, is_disc, layers, pieces
from whatrims.rims import rim_of, rim_word
from whatrims.sums import ball_counts, tiles_sum

BALLS = ((3, 3), (4, 3), (3, 4), (5, 3), (3, 5))
TRI = ((3,), ())
CAP = ((3, 3, 3), (((0, 1), (1, 2)), ((0, 2), (2, 1)), ((1, 1), (2, 2))))


def pairs_of_halves(p, q):
    """Return pairs of discs that make the ball of a kind, each with a side: the discs are cut out of it."""
    ball = ball_of(p, q)
    found = []
    for n in range(1, len(ball[0])):
        lot = [t for layer in layers(ball, 0) for t in layer][:n]
        ring = seam_of(ball, lot)
        if ring is not None:
            found.append(halves(ball, ring))
    return found


def seam_of(ball, lot):
    """Return the ring of sides round the tiles of a lot, None if they or the others are no disc."""
    sides = [side for side in sides_of(ball) if side[0] in lot and mate_of(ball, side)[0] not in lot]
    ring = [sides[0]]
    while True:
        following = [side for side in sides if corner_of(ball, side) == corner_of(ball, next_side(ball, ring[-1]))]
        if len(following) != 1:
            return None
        if following[0] == ring[0]:
            return tuple(ring) if len(ring) == len(sides) else None
        ring.append(following[0])


class Glued(unittest.TestCase):
    def test_halves_of_balls_from_each_side(self):
        tried = 0
        for p, q in BALLS:
            for (one, side), (other, mate) in pairs_of_halves(p, q)[::1 + (p == 3) * (q == 5) * 3]:
                self.assertTrue(is_disc(one) and is_disc(other))
                for turned in rim_sides(one):
                    for other_side in rim_sides(other):
                        self.check(one, turned, other, other_side, q)
                        tried += 1
                told = glued(one, side, other, mate, q)
                self.assertEqual(form(told), ball_of(p, q))
        self.assertGreater(tried, 300)

    def check(self, one, side, other, other_side, q):
        """Compare glued with what the point tells of it."""
        rim, other_rim = rim_of(one, side), rim_of(other, other_side)
        n, many = len(rim), len(one[0])
        # Where side k of the first rim begins, the side that it is tied with ends, and that one ends where the
        # one behind it begins: the letters there are those of the words.
        letters, other_letters = rim_word(one, side), rim_word(other, other_side)
        wrong = [k for k in range(n) if letters[k] + (other_letters * 2)[n + 1 - k] != q]
        try:
            told = glued(one, side, other, other_side, q)
        except NotGlued as error:
            self.assertEqual(error.number, wrong[0])
            return
        self.assertEqual(wrong, [])
        self.assertTrue(is_gluing(told) and is_ball(told))
        self.assertEqual(told[0], one[0] + other[0])
        for k in range(n):
            t, i = other_rim[(n - k) % n]
            self.assertEqual(mate_of(told, rim[k]), (t + many, i))
        for tie in one[1]:
            self.assertIn(tie, told[1])
        for (t, i), (u, j) in other[1]:
            self.assertIn(((t + many, i), (u + many, j)), told[1])
        self.assertEqual(len(told[1]), len(one[1]) + len(other[1]) + n)

    def test_unlike_lengths(self):
        for one, other in ((one_tile(3), one_tile(4)), (one_tile(5), CAP), (CAP, one_tile(24))):
            for q in (3, 4, 24):
                with self.assertRaises(NotGlued) as caught:
                    glued(one, (0, 0), other, (0, 0), q)
                self.assertIsNone(caught.exception.number)

    def test_the_least_corner_that_does_not_fit(self):
        domino = ((4, 4), (((0, 1), (1, 3)),))
        numbers = set()
        for q in (2, 3, 4):
            for side in rim_sides(domino):
                for mate in rim_sides(domino):
                    with self.subTest(q=q, side=side, mate=mate):
                        try:
                            glued(domino, side, domino, mate, q)
                        except NotGlued as error:
                            numbers.add(error.number)
                        else:
                            numbers.add("glued")
                        self.check(domino, side, domino, mate, q)
        self.assertEqual(numbers, {0, 1, 2})
        # Two tiles alone: each letter is 1.
        for s in (3, 4, 24):
            with self.assertRaises(NotGlued) as caught:
                glued(one_tile(s), (0, 1), one_tile(s), (0, 2), 3)
            self.assertTrue(exactly_equal(caught.exception.number, 0))

    def test_the_first_corner_is_not_the_one_told_of_the_first_side(self):
        # Side 0 is tied with side 0, so corner 0 lies on corner 1.
        one = ((4, 4, 4), (((0, 1), (1, 3)), ((1, 1), (2, 3))))
        for side, other_side in itertools.product(rim_sides(one), repeat=2):
            self.check(one, side, one, other_side, 4)
            self.check(one, side, one, other_side, 3)

    def test_sums_of_balls(self):
        for p, q in BALLS:
            for (one, side), (other, mate) in pairs_of_halves(p, q)[:6]:
                self.assertEqual(tiles_sum(glued(one, side, other, mate, q), q), 4 * q)


class BallOf(unittest.TestCase):
    def test_the_five_balls(self):
        for p, q in BALLS:
            ball = ball_of(p, q)
            tiles, sides, many = ball_counts(p, q)
            self.assertTrue(is_gluing(ball) and is_ball(ball))
            self.assertEqual((ball[0], len(ball[1]), len(corners(ball))), ((p,) * tiles, sides, many))
            self.assertEqual([len(corner) for corner in inner_corners(ball)], [q] * many)
            self.assertEqual(ball, form(ball))
            # It looks the same from each of its sides.
            self.assertEqual(len(starts(ball)), tiles * p)
        self.assertEqual(ball_of(3, 3), form(TETRAHEDRON))


class Rings(unittest.TestCase):
    def fault(self, ball, sides):
        """Return what the point tells of the sides, word by word."""
        for k, side in enumerate(sides):
            if corner_of(ball, next_side(ball, sides[k - 1])) != corner_of(ball, side):
                return ("side", k)
        for k, side in enumerate(sides):
            if mate_of(ball, side) == sides[k - 1]:
                return ("back", k)
        for k, side in enumerate(sides):
            if corner_of(ball, side) in [corner_of(ball, each) for each in sides[:k]]:
                return ("twice", k)
        return None

    def walks(self, ball, side, length):
        """Return tuples of sides, each of which begins where the one ahead of it ends."""
        found = [(side,)]
        for _ in range(length - 1):
            longer = []
            for walk in found:
                share = next_side(ball, walk[-1])
                longer += [(*walk, each) for each in corner_of(ball, share)]
            found = longer
        return found

    def test_each_fault(self):
        words = {None: 0, "side": 0, "back": 0, "twice": 0}
        for ball, most in ((TETRAHEDRON, 6), (ball_of(4, 3), 6), (ball_of(3, 4), 5), (ball_of(5, 3), 5),
                           (form(((3, 3), (((0, 0), (1, 0)), ((0, 1), (1, 2)), ((0, 2), (1, 1))))), 4)):
            for length in range(1, most + 1):
                for walk in self.walks(ball, (0, 0), length)[::7 if length > 5 else 1]:
                    due = self.fault(ball, walk)
                    self.assertTrue(exactly_equal(ring_fault(ball, walk), due), (ball, walk))
                    words[due and due[0]] += 1
        self.assertTrue(min(words.values()) > 1, words)

    def test_the_least_of_each_fault(self):
        ball = ball_of(4, 3)
        for sides in itertools.product(sides_of(ball)[:9], repeat=3):
            self.assertTrue(exactly_equal(ring_fault(ball, sides), self.fault(ball, sides)))

    def test_one_side_is_no_ring(self):
        for p, q in BALLS:
            for side in sides_of(ball_of(p, q)):
                self.assertEqual(ring_fault(ball_of(p, q), (side,)), ("side", 0))

    def test_faults_of_unlike_words(self):
        # A walk there and back again: it goes back ahead of coming to a corner twice.
        ball = ball_of(4, 3)
        side = (0, 0)
        ahead = corner_of(ball, next_side(ball, side))[0]
        there_and_back = (side, ahead, mate_of(ball, ahead), mate_of(ball, side))
        self.assertEqual(ring_fault(ball, there_and_back), ("back", 0))
        self.assertEqual(ring_fault(ball, there_and_back[3:] + there_and_back[:3]), ("back", 1))
        # Round one tile, and round it again.
        round_it = tuple([(0, i) for i in range(4)])
        self.assertIsNone(ring_fault(ball, round_it))
        self.assertEqual(ring_fault(ball, round_it * 2), ("twice", 4))
        self.assertEqual(ring_fault(ball, round_it[:3]), ("side", 0))
        self.assertEqual(ring_fault(ball, (round_it[0], round_it[2])), ("side", 0))


class Halves(unittest.TestCase):
    def rings(self):
        for p, q in BALLS:
            ball = ball_of(p, q)
            for n in range(1, len(ball[0])):
                for first in (0, len(ball[0]) - 1):
                    lot = [t for layer in layers(ball, first) for t in layer][:n]
                    ring = seam_of(ball, lot)
                    if ring is not None:
                        yield ball, q, lot, ring

    def test_against_the_point(self):
        tried = 0
        for ball, q, lot, ring in self.rings():
            self.assertIsNone(ring_fault(ball, ring))
            left, right = sorted(lot), [t for t in range(len(ball[0])) if t not in lot]
            for k in range(0, len(ring), 2):
                turned = ring[k:] + ring[:k]
                told = halves(ball, turned)
                mate = mate_of(ball, turned[0])
                for (part, side), tiles, due in zip(told, (left, right), (turned[0], mate)):
                    self.assertEqual(part[0], tuple([ball[0][t] for t in tiles]))
                    ties = [tie for tie in ball[1] if tie[0][0] in tiles and tie[1][0] in tiles]
                    self.assertEqual(part[1], tuple([tuple([(tiles.index(t), i) for t, i in tie]) for tie in ties]))
                    self.assertEqual((tiles[side[0]], side[1]), due)
                    self.assertTrue(is_disc(part))
                tried += 1
        self.assertGreater(tried, 40)

    def test_glued_again(self):
        for ball, q, _, ring in self.rings():
            (left, side), (right, other_side) = halves(ball, ring)
            again = glued(left, side, right, other_side, q)
            self.assertTrue(is_like(again, ball))
            # Side k of the ring is that of the rim.
            self.assertEqual(len(rim_of(left, side)), len(ring))
            self.assertEqual(code(again, side), code(ball, ring[0]))
            for each, told in zip(ring, rim_of(left, side)):
                self.assertEqual(each[1], told[1])

    def test_tiles_named_anew(self):
        ball = ball_of(5, 3)
        order = tuple([(5 * t + 3) % 12 for t in range(12)])
        other = named(ball, order, (0,) * 12)
        ring = seam_of(other, [order[t] for t in layers(ball, 0)[0] + layers(ball, 0)[1]])
        (left, side), (right, other_side) = halves(other, ring)
        self.assertEqual((len(left[0]), len(right[0])), (6, 6))
        self.assertEqual(rim_word(left, side)[0] + rim_word(right, other_side)[1], 3)
        self.assertTrue(is_like(glued(left, side, right, other_side, 3), ball))

    def test_rings_of_two_sides(self):
        # Two pieces of a rim of two sides each, glued to a ball: the seam is a ring of two sides.
        _, disc, side = fill_two()
        ball = glued(disc, side, disc, side, 4)
        ring = rim_of(disc, side)
        self.assertEqual(len(ring), 2)
        self.assertIsNone(ring_fault(ball, ring))
        (left, first), (right, other) = halves(ball, ring)
        self.assertEqual((left, first, right, other), (disc, side, disc, side))

    def test_pieces_of_a_ball_cut(self):
        # The tiles of each half hang together.
        for ball, _, lot, ring in self.rings():
            for part, _ in halves(ball, ring):
                self.assertEqual(len(pieces(part)), 1)


def fill_two():
    """Return a disc whose rim has two sides, of the letters 2 and 2."""
    return fill_with(3, (3, 5), (2, 2), 4)


class Together(unittest.TestCase):
    def test_a_disc_and_what_fills_the_rest_of_the_ball(self):
        for p, q in BALLS:
            for disc in discs_of(p, q, 4)[::5]:
                side = rim_sides(disc)[0]
                word = rim_word(disc, side)
                # The rest is on the other hand, and goes round the other way.
                rest = tuple([q - word[1 - k] for k in range(len(word))])
                if all(0 < letter < q for letter in rest):
                    told = fill(p, q, rest)
                    if told[0] == "disc":
                        ball = glued(disc, side, told[1], told[2], q)
                        self.assertEqual(form(ball), ball_of(p, q))


if __name__ == "__main__":
    unittest.main()

"""Coils and their rims."""

import unittest

from tests.helpers import exactly_equal
from whatrims.coils import coil, coil_rim
from whatrims.corners import inner_corners
from whatrims.gluings import mate_of, part_of
from whatrims.over import over, patch, within_ring
from whatrims.pieces import is_disc, is_of
from whatrims.ringcounts import SIDES_INSIDE, makes, ring_counts, ring_kinds, ring_size, within
from whatrims.rims import rim_words

KINDS = [(p, q) for p in range(3, 13) for q in range(3, 13) if (p - 2) * (q - 2) >= 4]
FLAT = ((3, 6), (4, 4), (6, 3))
SOME = FLAT + ((3, 7), (3, 8), (4, 5), (5, 4), (5, 5), (7, 3), (8, 3), (3, 12), (12, 3), (12, 12))


def order(p, q, n):
    """Return the first n places."""
    found = []
    k = 0
    while len(found) < n:
        found += [(k, j) for j in range(ring_size(p, q, k))]
        k += 1
    return found[:n]


def rim_told(gluing):
    """Return of a disc what coil_rim tells of a coil."""
    word, = rim_words(gluing)
    return (len(word), sum(word), len(inner_corners(gluing)))


class Coil(unittest.TestCase):
    def test_place_by_place(self):
        for p, q in KINDS:
            for n in (1, 2, p, p + 1, 17, 60) if (p, q) in SOME else (1, 9):
                gluing = coil(p, q, n)
                places = order(p, q, n)
                self.assertEqual(gluing[0], (p,) * n)
                numbers = {place: t for t, place in enumerate(places)}
                for t, place in list(enumerate(places))[::1 if (p, q) in FLAT else 5]:
                    for i in range(p):
                        other, j = over(p, q, place, i)
                        due = (numbers[other], j) if other in numbers else None
                        self.assertEqual(mate_of(gluing, (t, i)), due, (p, q, n, place, i))

    def test_whole_rings(self):
        for p, q in SOME:
            for k in (0, 1, 2):
                if within(p, q, k) <= 60:
                    self.assertTrue(exactly_equal(coil(p, q, within(p, q, k)), within_ring(p, q, k)))

    def test_each_coil_is_a_disc_and_has_the_lesser_ones(self):
        for p, q in SOME:
            whole = coil(p, q, 30)
            for n in range(1, 30, 1 if p + q < 12 else 7):
                gluing = coil(p, q, n)
                self.assertTrue(is_disc(gluing) and is_of(gluing, p, q))
                self.assertEqual(gluing, part_of(whole, range(n)))


class CoilRim(unittest.TestCase):
    def test_against_coils(self):
        for p, q in KINDS:
            for n in range(1, 61, 1 if (p, q) in SOME[:6] else 13):
                self.assertTrue(exactly_equal(coil_rim(p, q, n), rim_told(coil(p, q, n))), (p, q, n))

    def test_against_patches(self):
        for p, q in SOME:
            for n in list(range(61, 200, 23)) + [within(p, q, 2) - 1, within(p, q, 2), within(p, q, 2) + 1]:
                self.assertEqual(coil_rim(p, q, n), rim_told(patch(p, q, order(p, q, n))), (p, q, n))

    def test_tile_by_tile(self):
        # A tile lies on its sides inside, on the tile ahead, and, if it is the last of its ring, on the first one.
        for p, q in SOME:
            inner, n, k = 0, 1, 1
            while k == 1 or n + ring_size(p, q, k) < 500:
                kinds = ring_kinds(p, q, k)
                for j, kind in enumerate(kinds):
                    inner += SIDES_INSIDE[kind] + (j > 0) + (j == len(kinds) - 1) - 1
                    n += 1
                    self.assertEqual(coil_rim(p, q, n)[2], inner, (p, q, n))
                k += 1

    def test_whole_rings_far_out(self):
        for p, q in SOME:
            inner = 0
            for k in range(1, 30):
                counts = ring_counts(p, q, k)
                inner += sum(counts[kind] * SIDES_INSIDE[kind] for kind in counts)
                n = within(p, q, k)
                self.assertEqual(coil_rim(p, q, n)[2], inner)
                # The next tile lies on one side, or touches two; the one before was the last one to close a corner.
                self.assertEqual(coil_rim(p, q, n + 1)[2], inner + (1 if q == 3 else 0))
                self.assertLess(coil_rim(p, q, n - 1)[2], inner)

    def test_rings_beyond_a_thousand(self):
        for p, q in FLAT:
            for k in (1000, 1001, 5000, 10 ** 6, 10 ** 14):
                n = within(p, q, k)
                self.assertEqual(coil_rim(p, q, n)[2], p * k * k)
            # A ring tile by tile, its kinds being those of the ring ahead led on.
            kinds = "O"
            k = 0
            while k < 150:
                kinds = "".join({"O": ring_kinds(p, q, 1), **makes(p, q)}[kind] for kind in kinds)
                k += 1
            n = within(p, q, k - 1)
            inner = coil_rim(p, q, n)[2]
            for j, kind in enumerate(kinds):
                inner += SIDES_INSIDE[kind] + (j > 0) + (j == len(kinds) - 1) - 1
                self.assertEqual(coil_rim(p, q, n + j + 1)[2], inner, (p, q, k, j))

    def test_very_many_tiles(self):
        for p, q in SOME:
            for n in (10 ** 30, 10 ** 30 - 1, 7 ** 35, 10 ** 12):
                length, total, inner = coil_rim(p, q, n)
                self.assertEqual(length, p * n - 2 * (n - 1 + inner))
                # What tiles tell is what the rim tells.
                self.assertEqual(n * (2 * q - (q - 2) * p), 2 * q - q * length + 2 * total)
                self.assertEqual(inner * (2 * p - (p - 2) * q), 2 * p - p * length + (p - 2) * total)
                more = coil_rim(p, q, n + 1)[2] - inner
                self.assertTrue(0 <= more < p)
        # Squares with an odd number of tiles along each side are whole rings.
        side = 10 ** 15 - 1
        self.assertEqual(coil_rim(4, 4, side ** 2), (4 * side, 8 * side - 4, (side - 1) ** 2))


if __name__ == "__main__":
    unittest.main()

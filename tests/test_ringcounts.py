"""The kinds of the tiles of rings round one tile, and how many there are."""

import unittest

from tests.helpers import exactly_equal, rings_laid
from whatrims.errors import TooMany
from whatrims.pieces import over_sides
from whatrims.ringcounts import (makes, ring_counts, ring_kinds, ring_of_tile, ring_rests, ring_size, within)
from whatrims.rings import ring

KINDS = [(p, q) for p in range(3, 13) for q in range(3, 13) if (p - 2) * (q - 2) >= 4]
FLAT = ((3, 6), (4, 4), (6, 3))
WIDE = [kind for kind in KINDS if kind not in FLAT]
FAR = 10 ** 30


def letters_of(p, q):
    return "AB" if q == 3 else "SCD" if p == 3 else "SC"


def rings_of(p, q, most, least=2):
    """Return the strings of kinds of the rings of up to so many tiles, told by [6.6] from what ring tells.

    There are at least so many strings as least tells, however many tiles their rings have.
    """
    found, word = ["O"], (1,) * p
    while True:
        # A word of so many letters has more tiles about it than most.
        if len(word) > 20 * most and len(found) >= least:
            return found
        tiles, word = ring(p, q, word)
        if len(tiles) > most and len(found) >= least:
            return found
        if q == 3:
            kinds = ["AB"[r - 1] for r in tiles]
        else:
            kinds = ["S" if r == 1 else "C" for r in tiles]
        if p == 3:
            for n, kind in enumerate(kinds):
                if kind == "C" and kinds[(n + 1) % len(kinds)] == "S":
                    kinds[n] = "D"
        assert set(tiles) <= {0, 1, 2}
        found.append("".join(kinds))


def steps(p, q, n, m):
    """Return the list of the counts of the rings 1 to n, modulo m if it is not None, by what tiles make."""
    made = makes(p, q)
    first = ring_kinds(p, q, 1)
    counts = {kind: first.count(kind) for kind in letters_of(p, q)}
    found = []
    for _ in range(n):
        found.append({kind: counts[kind] % m if m else counts[kind] for kind in counts})
        counts = {kind: sum(made[other].count(kind) * found[-1][other] for other in counts) for kind in counts}
    return found


class RingKinds(unittest.TestCase):
    def test_as_rings_are_laid(self):
        for p, q in KINDS:
            found = rings_of(p, q, 1000)
            self.assertGreaterEqual(len(found), 2)
            self.assertEqual([ring_kinds(p, q, n) for n in range(len(found))], found, (p, q))
            for n in (len(found), len(found) + 1, FAR):
                with self.assertRaises(TooMany):
                    ring_kinds(p, q, n)

    def test_as_ringed_makes_them(self):
        for p, q in ((4, 4), (4, 6), (5, 5), (6, 4), (6, 3), (7, 3), (9, 3), (3, 6), (3, 7), (3, 10)):
            gluing, places = rings_laid(p, q, 400)
            for k in range(1, places[-1][0] + 1):
                tiles = [t for t, place in enumerate(places) if place[0] == k]
                inside = [sum(places[u][0] < k for u in over_sides(gluing, t) if u is not None) for t in tiles]
                kinds = ring_kinds(p, q, k)
                self.assertEqual(len(kinds), len(tiles))
                for n, kind in enumerate(kinds):
                    self.assertEqual(inside[n], {"S": 1, "C": 0, "D": 0, "A": 1, "B": 2}[kind])
                    if p == 3 and kind != "S":
                        self.assertEqual(kind == "D", inside[(n + 1) % len(inside)] == 1)
                if p > 3 and q > 3:
                    self.assertEqual(set(kinds), {"S", "C"})

    def test_known_ones(self):
        self.assertEqual(ring_kinds(5, 4, 1), "SC" * 5)
        self.assertEqual(ring_kinds(5, 4, 2)[:6], "SCSSCS")
        self.assertEqual(ring_kinds(12, 3, 1), "A" * 12)
        self.assertEqual(ring_kinds(3, 12, 1), ("S" + "C" * 8 + "D") * 3)
        self.assertEqual(ring_kinds(7, 7, 0), "O")

    def test_just_a_thousand(self):
        # On the floor of squares ring n has 8 n tiles, of hexagons 6 n, of triangles 12 n.
        for p, q, n, size in ((4, 4, 125, 1000), (6, 3, 166, 996), (3, 6, 83, 996)):
            self.assertEqual(len(ring_kinds(p, q, n)), size)
            with self.assertRaises(TooMany):
                ring_kinds(p, q, n + 1)


class Makes(unittest.TestCase):
    def test_each_rule(self):
        for p, q, due in ((4, 4, {"S": "S", "C": "SCS"}), (4, 5, {"S": "SC", "C": "SCCSC"}),
                          (5, 4, {"S": "SCS", "C": "SCSCS"}), (4, 12, {"S": "S" + "C" * 8, "C": "S" + "C" * 9 + "S" + "C" * 8}),
                          (6, 3, {"A": "BA", "B": "B"}), (12, 3, {"A": "B" + "A" * 7, "B": "B" + "A" * 6}),
                          (3, 6, {"S": "", "C": "SCD", "D": "SD"}), (3, 12, {"S": "", "C": "S" + "C" * 7 + "D",
                                                                            "D": "S" + "C" * 6 + "D"})):
            self.assertTrue(exactly_equal(makes(p, q), due), (p, q))

    def test_the_next_ring_is_what_is_made(self):
        for p, q in KINDS:
            found = rings_of(p, q, 300, 3)
            self.assertGreaterEqual(len(found), 3)
            made = makes(p, q)
            self.assertEqual(list(made), list(letters_of(p, q)))
            for ring_kinds_now, after in zip(found[1:], found[2:]):
                self.assertEqual("".join(made[kind] for kind in ring_kinds_now), after)


class Counts(unittest.TestCase):
    def test_against_the_kinds(self):
        for p, q in KINDS:
            total = 0
            for n, kinds in enumerate(rings_of(p, q, 1000)):
                due = {kind: kinds.count(kind) for kind in letters_of(p, q)} if n else {"O": 1}
                total += len(kinds)
                self.assertTrue(exactly_equal(ring_counts(p, q, n), due))
                self.assertTrue(exactly_equal([ring_size(p, q, n), within(p, q, n)], [len(kinds), total]))

    def test_far_out_on_flat_floors(self):
        for n in (1, 2, 400, 401, 10 ** 9, FAR, FAR - 1):
            self.assertTrue(exactly_equal(ring_counts(4, 4, n), {"S": 8 * n - 4, "C": 4}))
            self.assertTrue(exactly_equal(ring_counts(6, 3, n), {"A": 6, "B": 6 * n - 6}))
            self.assertTrue(exactly_equal(ring_counts(3, 6, n), {"S": 6 * n - 3, "C": 6, "D": 6 * n - 3}))
            self.assertEqual([ring_size(p, q, n) for p, q in FLAT], [12 * n, 8 * n, 6 * n])
            self.assertEqual([within(p, q, n) for p, q in FLAT],
                             [1 + 6 * n * (n + 1), 1 + 4 * n * (n + 1), 1 + 3 * n * (n + 1)])
        self.assertEqual([within(p, q, 0) for p, q in FLAT], [1, 1, 1])

    def test_the_four_hundredth_ring_and_no_further(self):
        for p, q in WIDE[::4] + [(7, 3), (3, 7), (4, 5), (12, 12)]:
            due = steps(p, q, 400, None)
            self.assertTrue(exactly_equal(ring_counts(p, q, 400), due[-1]))
            self.assertEqual(ring_size(p, q, 400), sum(due[-1].values()))
            self.assertEqual(within(p, q, 400), 1 + sum(sum(counts.values()) for counts in due))
            for call in (ring_counts, ring_size, within):
                for n in (401, 402, 1000, FAR):
                    with self.assertRaises(TooMany):
                        call(p, q, n)

    def test_ring_0(self):
        for p, q in KINDS:
            self.assertTrue(exactly_equal([ring_counts(p, q, 0), ring_size(p, q, 0), within(p, q, 0)], [{"O": 1}, 1, 1]))


class Rests(unittest.TestCase):
    def test_against_the_counts(self):
        for p, q in KINDS[::3] + list(FLAT):
            for n in (0, 1, 2, 3, 7, 100, 399, 400):
                counts = ring_counts(p, q, n)
                for m in (1, 2, 7, 1000, 10 ** 18):
                    due = {kind: counts[kind] % m for kind in counts}
                    self.assertTrue(exactly_equal(ring_rests(p, q, n, m), due))
        self.assertTrue(exactly_equal(ring_rests(7, 3, 0, 1), {"O": 0}))
        self.assertTrue(exactly_equal(ring_rests(7, 3, 0, 2), {"O": 1}))

    def test_far_out_on_flat_floors(self):
        for n in (FAR, FAR - 1):
            for m in (1, 9, 10 ** 18, 10 ** 18 - 1):
                for p, q in FLAT:
                    counts = ring_counts(p, q, n)
                    self.assertEqual(ring_rests(p, q, n, m), {kind: counts[kind] % m for kind in counts})

    def test_far_out_on_wide_floors(self):
        # The counts modulo m come again and again, so the ring far out is told by one near by.
        for p, q in ((7, 3), (3, 7), (4, 5), (12, 12), (3, 12), (5, 4)):
            for m in (1, 2, 10, 13):
                found = steps(p, q, 3000, m)
                at = {}
                for n, counts in enumerate(found, 1):
                    key = tuple(counts.values())
                    if key in at:
                        break
                    at[key] = n
                first, period = at[key], n - at[key]
                for far in (401, 1001, 10 ** 18, FAR - 1, FAR):
                    due = found[(first + (far - first) % period if far >= first else far) - 1]
                    self.assertTrue(exactly_equal(ring_rests(p, q, far, m), due), (p, q, far, m))


class RingOfTile(unittest.TestCase):
    def test_one_by_one(self):
        for p, q in KINDS[::4] + list(FLAT):
            due = [(n, j) for n, kinds in enumerate(rings_of(p, q, 300)) for j in range(len(kinds))]
            self.assertTrue(exactly_equal([ring_of_tile(p, q, k) for k in range(len(due))], due))

    def test_first_and_last_ones_of_flat_rings(self):
        for p, q in FLAT:
            for n in (1, 2, 3, 401, 10 ** 15, 10 ** 29 + 7):
                before = within(p, q, n - 1)
                self.assertTrue(exactly_equal(ring_of_tile(p, q, before), (n, 0)))
                self.assertTrue(exactly_equal(ring_of_tile(p, q, before - 1), (n - 1, ring_size(p, q, n - 1) - 1)))
            for k in (10 ** 60 - 1, 10 ** 59, 123456789 * 10 ** 50):
                n, j = ring_of_tile(p, q, k)
                self.assertEqual(within(p, q, n - 1) + j, k)
                self.assertLess(j, ring_size(p, q, n))

    def test_first_and_last_ones_of_wide_rings(self):
        for p, q in ((7, 3), (3, 7), (4, 5), (5, 4), (12, 12), (3, 12), (12, 3)):
            for n in (1, 2, 50, 399, 400):
                before = within(p, q, n - 1)
                self.assertTrue(exactly_equal(ring_of_tile(p, q, before), (n, 0)))
                self.assertTrue(exactly_equal(ring_of_tile(p, q, before - 1), (n - 1, ring_size(p, q, n - 1) - 1)))
            whole = within(p, q, 400)
            self.assertEqual(ring_of_tile(p, q, whole - 1), (400, ring_size(p, q, 400) - 1))
            for k in (whole, whole + 1, 10 * whole):
                with self.assertRaises(TooMany):
                    ring_of_tile(p, q, k)

    def test_six_hundred_figures(self):
        for k in (10 ** 599, 10 ** 600 - 1):
            n, j = ring_of_tile(12, 12, k)
            self.assertEqual(within(12, 12, n - 1) + j, k)
            self.assertLess(j, ring_size(12, 12, n))
            with self.assertRaises(TooMany):
                ring_of_tile(7, 3, k)


if __name__ == "__main__":
    unittest.main()

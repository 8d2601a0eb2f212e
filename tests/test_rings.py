"""Rings told of rim words, and laid round rims."""

import itertools
import unittest

from tests.helpers import BAND, ONE, discs_of, exactly_equal
from whatrims.corners import corners
from whatrims.errors import NoRing
from whatrims.gluings import beside, is_gluing, one_tile, rim_sides
from whatrims.laying import laid
from whatrims.pieces import is_disc, is_of
from whatrims.rims import rim_of, rim_word, rims
from whatrims.rings import ring, ringed

KINDS = [(p, q) for p in range(3, 13) for q in range(3, 13) if (p - 2) * (q - 2) >= 4]
# Five squares in a ring, and nine on a torus with one gone: rims of five sides, two of them, and of four.
FIVE = ((4,) * 5, (((0, 1), (1, 3)), ((0, 3), (4, 1)), ((1, 1), (2, 3)), ((2, 1), (3, 3)), ((3, 1), (4, 3))))


def torus_of_eight():
    ties = []
    for x in range(3):
        for y in range(3):
            ties += [((x + 3 * y, 1), ((x + 1) % 3 + 3 * y, 3)), ((x + 3 * y, 2), (x + 3 * ((y + 1) % 3), 0))]
    return ((4,) * 8, tuple(sorted(tuple(sorted(tie)) for tie in ties if all(t < 8 for t, _ in tie))))


def raw_tiles(p, q, word):
    """Return the ring's tiles as lists of the sides that they lie over, None if runs end nowhere.

    Corner by corner and side by side, and then, with p from 4 on, the tiles on both hands of a corner with one
    missing are made one.
    """
    many = len(word)
    items = []
    for i in range(many):
        items += [[] for _ in range(q - word[i] - 2)] + [[i]]
    joined = 2 if p == 3 else 1
    if all(q - letter == joined for letter in word):
        return None
    while p > 3:
        for k, item in enumerate(items):
            after = items[(k + 1) % len(items)]
            if item and after and item is not after and q - word[after[0]] == 1:
                item += after
                items.remove(after)
                break
        else:
            break
    while 0 not in items[0]:
        items = items[1:] + items[:1]
    return items


def slow_fault(p, q, word):
    """Return the place of NoRing, None if there is a ring, from the raw tiles."""
    if p == 3 and q - 1 in word:
        return word.index(q - 1)
    tiles = raw_tiles(p, q, word)
    if tiles is None:
        return len(word)
    found = [tile[0] for tile in tiles if p - 2 - len(tile) < 0]
    marks = ["z" if tile and p - 2 - len(tile) == 0 else "n" for tile in tiles]
    if "n" in marks:
        turn = marks.index("n")
        turned = tiles[turn:] + tiles[:turn]
        for zeros, row in itertools.groupby(turned, key=lambda tile: bool(tile) and len(tile) == p - 2):
            row = list(row)
            if zeros and len(row) + 2 >= q:
                found.append(row[0][0])
    if found:
        return min(found)
    outside = sum(p - 2 - len(tile) for tile in tiles)
    return len(word) if len(tiles) < 3 or outside < 3 else None


def band_of(p, overs):
    """Return the gluing of a ring's tiles alone, each tied to the next one, from how many sides each lies over."""
    many = len(overs)
    ties = [tuple(sorted([(t, p - 1), ((t + 1) % many, overs[(t + 1) % many])])) for t in range(many)]
    return ((p,) * many, tuple(sorted(ties)))


class Words(unittest.TestCase):
    def check(self, p, q, word):
        """Compare a ring with the raw tiles, and its words with those of the rims of its tiles."""
        due = slow_fault(p, q, word)
        if due is not None:
            with self.assertRaises(NoRing) as caught:
                ring(p, q, word)
            self.assertTrue(exactly_equal(caught.exception.place, due), (p, q, word))
            return 0
        tiles, after = ring(p, q, word)
        self.assertEqual(tiles, tuple(len(tile) for tile in raw_tiles(p, q, word)), (p, q, word))
        band = band_of(p, tiles)
        first = [t for t, r in enumerate(tiles) if p - 2 - r > 0][0]
        self.assertTrue(exactly_equal(rim_word(band, (first, tiles[first] + 1)), after), (p, q, word))
        self.assertTrue(all(1 <= letter < q for letter in after))
        # The inner rim goes the other way: from the corner where the side 0 ends to the one where it begins, and on.
        raw = raw_tiles(p, q, word)
        side = (0, len(raw[0]) - 1 - raw[0].index(0))
        self.assertEqual(rim_word(band, side), tuple(q - word[1 - i] for i in range(len(word))), (p, q, word))
        return 1

    def test_all_short_words(self):
        rings = 0
        for p, q, lengths in ((3, 6, (3, 4, 5)), (3, 7, (3, 4)), (3, 8, (3, 4)), (4, 4, (3, 4, 5, 6)),
                              (4, 5, (3, 4, 5)), (5, 4, (3, 4, 5)), (6, 3, range(3, 10)), (7, 3, (3, 9)),
                              (8, 3, (7, 8)), (6, 4, (3, 4, 5)), (12, 3, (4, 9)), (5, 5, (3, 4)), (7, 6, (3, 4))):
            for b in lengths:
                for word in itertools.product(range(1, q), repeat=b):
                    rings += self.check(p, q, word)
        self.assertGreater(rings, 2000)

    def test_words_of_forty_letters(self):
        for p, q in KINDS:
            for step in range(1, 12, 2):
                word = tuple(1 + (k * step + k * k // 3) % (q - 1) for k in range(40))
                self.check(p, q, word)
                self.check(p, q, tuple(min(letter, max(1, q - 3)) for letter in word))

    def test_known_ones(self):
        for p, q, word, tiles, after in (
                (4, 4, (2, 2, 2, 2, 2), (1,) * 5, (2,) * 5), (4, 4, (1, 2, 1, 1, 2, 1), (1, 1, 0, 1, 0, 1, 1, 0, 1, 0),
                                                             (2, 2, 2, 1, 2, 2, 1, 2, 2, 2, 1, 2, 2, 1)),
                (6, 3, (2, 1) * 3, (2, 2, 2), (2, 1) * 3), (3, 7, (1, 1, 1), (1, 0, 0, 0, 0) * 3, (3, 2, 2, 2) * 3),
                # A row of one tile without a side outside; of two, over two runs, first in the ring.
                (4, 5, (4, 1, 1), (2, 0, 0, 1, 0, 0), (3, 1, 2, 1, 2, 2, 1, 2, 1)),
                (4, 6, (4, 5, 4, 5, 1, 1), (2, 2, 0, 0, 0, 1, 0, 0, 0, 1), (4, 1, 2, 1, 2, 1, 2, 2, 1, 2, 1, 2, 1, 2)),
                # One tile stands on both hands of the row.
                (5, 6, (5, 5, 4, 5, 5, 3), (3, 3, 0), (4, 1, 1)),
                (6, 6, (5, 5, 5, 4, 5, 5, 5, 3), (4, 4, 0), (4, 1, 1, 1))):
            self.assertTrue(exactly_equal(ring(p, q, word), (tiles, after)), (p, q, word))
            self.check(p, q, word)

    def test_side_0_within_a_run(self):
        # The run goes over the end of the word. With p = 3 each of its sides has a tile, and that of side 0 is first.
        self.assertEqual(ring(7, 4, (3, 1, 1, 3))[0][0], 3)
        self.assertEqual(ring(7, 4, (3, 3, 1, 1))[0], (3, 0, 1, 0))
        self.assertEqual(ring(7, 4, (3, 1, 1, 3))[0], (3, 0, 1, 0))
        self.assertEqual(ring(3, 7, (5, 1, 1, 5))[0], (1, 0, 0, 0, 0, 1, 0, 0, 0, 0, 1, 1))
        self.assertEqual(ring(3, 7, (5, 1, 1, 1))[0], (1,) + (0, 0, 0, 0, 1) * 3)


class NoRings(unittest.TestCase):
    def place(self, p, q, word):
        with self.assertRaises(NoRing) as caught:
            ring(p, q, word)
        return caught.exception.place

    def test_triangles_with_one_missing_ahead_of_all_else(self):
        self.assertEqual(self.place(3, 6, (1, 5, 1, 5)), 1)
        self.assertEqual(self.place(3, 6, (5, 5, 5)), 0)
        # A row that begins at side 0 has too great a letter, too: the corner 4 comes first all the same.
        self.assertEqual(self.place(3, 6, (1, 4, 4, 4, 5, 1)), 4)
        self.assertEqual(self.place(3, 6, (1, 4, 4, 4, 1, 1)), 0)

    def test_runs_that_are_too_long(self):
        self.assertEqual(self.place(4, 4, (1, 1, 3, 3, 1)), 1)
        self.assertEqual(self.place(4, 4, (3, 1, 1, 3)), 2)
        self.assertEqual(self.place(5, 4, (1, 1, 3, 3, 3, 1)), 1)
        self.assertEqual(self.place(4, 5, (1, 4, 4, 1, 4, 4)), 0)
        # Just as many as there may be: three sides over pentagons.
        self.assertEqual(ring(5, 5, (1, 4, 4, 1, 1))[0], (3, 0, 0, 1, 0, 0, 1, 0, 0))

    def test_outer_corners_with_too_many(self):
        self.assertEqual(self.place(4, 4, (1, 1, 3, 2, 3, 2)), 1)
        self.assertEqual(self.place(6, 3, (1, 2, 2, 2, 1, 1)), 0)
        self.assertEqual(self.place(3, 7, (1, 5, 5, 5, 5, 1)), 0)
        self.assertEqual(ring(3, 8, (1, 6, 6, 6, 1, 1))[1][0], 6)
        self.assertEqual(self.place(3, 8, (1, 1, 6, 6, 6, 6, 6, 1)), 1)
        # Of a row at side 0 and a run too long at side 4, the row; of a run too long at side 0 and a row, the run.
        self.assertEqual(self.place(4, 4, (2, 3, 2, 3, 1, 3, 3, 1)), 0)
        self.assertEqual(self.place(4, 4, (1, 3, 3, 1, 1, 3, 2, 3)), 0)

    def test_the_least_of_the_first_sides(self):
        # A run too long at side 1, a row at side 5; and the other way round.
        self.assertEqual(self.place(4, 4, (1, 1, 3, 3, 1, 1, 3, 2, 3)), 1)
        self.assertEqual(self.place(4, 4, (1, 1, 3, 2, 3, 1, 1, 3, 3)), 1)
        # A row that goes over the end of the word has its first side there, not 0.
        self.assertEqual(self.place(4, 4, (3, 2, 3, 1, 1, 1)), 5)
        self.assertEqual(self.place(3, 6, (4, 4, 1, 1, 1, 4)), 4)

    def test_none_of_these(self):
        # No corner at which a run ends; fewer than three tiles; fewer than three letters.
        self.assertEqual(self.place(4, 4, (3, 3, 3)), 3)
        self.assertEqual(self.place(6, 3, (2, 2, 2, 2)), 4)
        self.assertEqual(self.place(3, 6, (4, 4, 4, 4)), 4)
        self.assertEqual(self.place(9, 3, (2, 1, 2)), 3)
        self.assertEqual(self.place(12, 3, (1, 2, 2, 1)), 4)
        self.assertEqual(self.place(5, 4, (2, 3, 3)), 3)
        self.assertEqual(self.place(4, 4, (3, 2, 3, 2, 3, 2)), 6)
        self.assertEqual(self.place(3, 12, (9, 10, 10)), 3)
        self.assertEqual(ring(3, 12, (7, 10, 10)), ((1, 1, 1, 0, 0, 0), (5, 2, 2)))

    def test_ringed_raises_as_ring(self):
        five = built_row(5)
        for q in (4, 5):
            for side in rim_sides(five):
                word = rim_word(five, side)
                try:
                    due = None if ring(4, q, word) else 0
                except NoRing as error:
                    due = error.place
                if due is None:
                    ringed(five, 4, q, side)
                else:
                    with self.assertRaises(NoRing) as caught:
                        ringed(five, 4, q, side)
                    self.assertEqual(caught.exception.place, due)
        # A bay of three sides, over which no one square can lie.
        bay = laid(laid(built_row(3), (0, 1), 1, 4), (2, 1), 1, 4)
        side = [each for each in rim_sides(bay) if rim_word(bay, each)[:4] == (1, 3, 3, 1)][0]
        for k, each in enumerate(rim_of(bay, side)):
            with self.assertRaises(NoRing) as caught:
                ringed(bay, 4, 4, each)
            self.assertEqual(caught.exception.place, -k % 12)


def built_row(n):
    gluing = ONE
    for t in range(n - 1):
        gluing = laid(gluing, (t, 2), 1, 4)
    return gluing


class Ringed(unittest.TestCase):
    def check(self, gluing, p, q, side):
        """Compare what ringed makes with the ring, side by side and corner by corner."""
        rim, word = rim_of(gluing, side), rim_word(gluing, side)
        tiles, after = ring(p, q, word)
        made = ringed(gluing, p, q, side)
        many = len(gluing[0])
        self.assertTrue(is_gluing(made))
        self.assertEqual(made[0], gluing[0] + (p,) * len(tiles))
        self.assertEqual([tie for tie in made[1] if tie[1][0] < many], list(gluing[1]))
        mates = dict(made[1]) | {other: one for one, other in made[1]}
        corner_at = {share: corner for corner in corners(made) for share in corner}
        for n, r in enumerate(tiles):
            t = many + n
            over = [mates[(t, i)] for i in range(r)]
            at = [rim.index(each) for each in over]
            self.assertTrue(all((one - other) % len(rim) == 1 for one, other in zip(at, at[1:])))
            before = many + (n - 1) % len(tiles)
            self.assertEqual(mates[(t, r)], (before, p - 1))
            self.assertTrue(all((t, i) not in mates for i in range(r + 1, p - 1)))
        # All sides of the rim are tied, and all its corners are inner ones, of q tiles.
        for each in rim:
            self.assertIn(each, mates)
            self.assertIn(corner_at[each][-1], mates)
            self.assertEqual(len(corner_at[each]), q)
        self.assertEqual(mates[side][0], many)
        first = [n for n, r in enumerate(tiles) if p - 2 - r > 0][0]
        self.assertEqual(rim_word(made, (many + first, tiles[first] + 1)), after)
        self.assertEqual(len(rims(made)), len(rims(gluing)))
        return made, (many + first, tiles[first] + 1)

    def test_round_one_tile_again_and_again(self):
        for p, q in KINDS:
            gluing, side = one_tile(p), (0, 0)
            while len(gluing[0]) < 60:
                gluing, side = self.check(gluing, p, q, side)
            self.assertTrue(is_of(gluing, p, q))
            self.assertTrue(is_disc(gluing))

    def test_from_each_rim_side(self):
        for p, q, n in ((4, 4, 4), (4, 5, 3), (3, 6, 4), (3, 7, 4), (6, 3, 4), (7, 3, 4), (5, 4, 3)):
            for gluing in discs_of(p, q, n)[::5]:
                for side in rim_sides(gluing):
                    if slow_fault(p, q, rim_word(gluing, side)) is None:
                        made, _ = self.check(gluing, p, q, side)
                        self.assertTrue(is_of(made, p, q))

    def test_tiles_of_other_sizes_within(self):
        self.check(((5, 3), (((0, 0), (1, 1)),)), 4, 4, (0, 3))
        self.check(one_tile(24), 3, 12, (0, 23))
        self.check(one_tile(3), 12, 12, (0, 1))

    def test_no_discs(self):
        both = beside(FIVE, BAND)
        for side in rims(FIVE)[0] + rims(FIVE)[1]:
            made, after = self.check(FIVE, 4, 4, side)
            self.assertEqual(len(rims(made)), 2)
            self.check(both, 4, 4, side)
            made, _ = self.check(made, 4, 4, after)
        for side in rim_sides(torus_of_eight()):
            self.check(torus_of_eight(), 4, 5, side)


if __name__ == "__main__":
    unittest.main()

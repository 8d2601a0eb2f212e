"""Odd discs: numbers of tiles that are due, and words filled with odd tiles, or barred."""

import itertools
import unittest

from tests.helpers import BALL, BAND, STRANGE, changes, exactly_equal, lay, rests_read, rising
from whatrims.corners import inner_corners, rim_corners
from whatrims.gluings import is_gluing, is_side, mate_of, one_tile, rim_sides
from whatrims.odd import due_counts, fill_with, judge_fill_with
from whatrims.pieces import is_disc
from whatrims.rims import rim_of, rim_word

PENTAGON = ((5,), ())
TWO = ((5, 6), (((0, 0), (1, 0)),))
SIZES = [sizes for many in (1, 2, 3) for sizes in itertools.combinations(range(3, 9), many)]


def counts_tried(q, sizes, word, n):
    """Return the numbers of tiles that are due, all tuples being tried."""
    due = q * (2 - len(word)) + 2 * sum(word)
    found = []
    for told in itertools.product(range(n + 1), repeat=len(sizes)):
        if 1 <= sum(told) <= n and sum(k * (2 * q - (q - 2) * s) for k, s in zip(told, sizes)) == due:
            found.append(told)
    return found


def odd_discs(q, sizes, n):
    """Return the list that has, for each number up to n, the dict from rim words to discs of so many tiles, and sides.

    Each disc comes of a lesser one by laying a tile, its rim letters being at most q - 1.
    """
    by_words = [{}, {}]
    for s in sizes:
        by_words[1][(1,) * s] = (one_tile(s), (0, 0))
    for _ in range(n - 1):
        found = {}
        for gluing, first in by_words[-1].values():
            for side in rim_of(gluing, first):
                for s in sizes:
                    for k in range(1, min(s, len(rim_of(gluing, side)))):
                        more = lay(gluing, side, k, s)
                        if all(len(corner) == q for corner in inner_corners(more)):
                            if all(len(corner) < q for corner in rim_corners(more)) and is_disc(more):
                                for each in rim_sides(more):
                                    found[rim_word(more, each)] = (more, each)
        by_words.append(found)
    return by_words


def sharings(most, many):
    """Return all tuples of so many numbers from 1 on with a sum of at most most."""
    return [told for told in itertools.product(range(1, most + 1), repeat=many) if sum(told) <= most]


def first_open(q, sizes, lot):
    """Return the first pair of a lot for which the point does not hold, by its own words, None if there is none."""
    due = {}

    def is_let(rest, share):
        if (rest, share) not in due:
            due[(rest, share)] = counts_tried(q, sizes, rest, share) == []
        return due[(rest, share)] or any(word == rest and c >= share for word, c in lot)

    for word, m in lot:
        if counts_tried(q, sizes, word, m) == []:
            continue
        for s in sizes:
            for way in rising(word, s - 2):
                rests = rests_read(q, word, way, True)
                if rests is not None and len(rests) < m:
                    for shares in sharings(m - 1, len(rests)):
                        if not any(is_let(rest, share) for rest, share in zip(rests, shares)):
                            return (word, m)
    return None


def tasks():
    """Return odd tasks of all q, small enough to be looked at in all ways."""
    found = []
    for q, most, n in ((3, 6, 5), (4, 5, 4), (5, 5, 4), (6, 4, 3)):
        for sizes in SIZES[::2]:
            if max(sizes) <= 7:
                for b in range(2, most + 1):
                    words = list(itertools.product(range(1, q), repeat=b))
                    words = [word for word in words if counts_tried(q, sizes, word, n)]
                    found += [(q, sizes, word, n) for word in words[::1 + len(words) // 12]]
    return found


class DueCounts(unittest.TestCase):
    def test_against_trying_all(self):
        some = 0
        for q in (3, 4, 5, 6):
            for sizes in SIZES:
                for word in ((1, 1), (1, 2) * 2, (2, 2, 2), (1, 1, 2, 2, 1), (q - 1,) * 6, (1,) * 8,
                             (1, q - 1, 1, 2, 1, 1)):
                    for n in (1, 2, 4, 6):
                        told = due_counts(q, sizes, word, n)
                        self.assertTrue(exactly_equal(told, counts_tried(q, sizes, word, n)), (q, sizes, word, n))
                        self.assertEqual(told, sorted(told))
                        some += told != []
        self.assertGreater(some, 300)

    def test_none_and_some_due(self):
        self.assertEqual(due_counts(3, (5, 6), (1, 2, 1), 3), [])
        self.assertEqual(due_counts(3, (5,), (1,) * 5, 1), [(1,)])
        self.assertEqual(due_counts(3, (5, 6), (1, 1, 1, 1), 2), [(2, 0)])
        self.assertEqual(due_counts(3, (5, 6), (1, 1, 1, 1), 1), [])
        # Sixes do not count with three at each corner.
        self.assertEqual(due_counts(3, (6,), (1,) * 6, 3), [(1,), (2,), (3,)])
        self.assertEqual(due_counts(3, (5, 6, 7), (1,) * 6, 3), [(0, 1, 0), (0, 2, 0), (0, 3, 0), (1, 0, 1), (1, 1, 1)])

    def test_counts_of_odd_discs_are_due(self):
        for q, sizes, n in ((3, (4, 5, 7), 3), (4, (3, 4), 4), (5, (3, 5), 3), (6, (3, 4), 3)):
            for words in odd_discs(q, sizes, n)[1:]:
                for word, (gluing, _) in words.items():
                    told = tuple([gluing[0].count(s) for s in sizes])
                    self.assertIn(told, due_counts(q, sizes, word, n))


class FillWith(unittest.TestCase):
    def assert_right(self, q, sizes, word, n, told):
        if told[0] == "disc":
            _, gluing, side = told
            self.assertTrue(is_gluing(gluing) and is_disc(gluing))
            self.assertTrue(is_side(gluing, side) and mate_of(gluing, side) is None)
            self.assertTrue(all(s in sizes for s in gluing[0]) and len(gluing[0]) <= n)
            self.assertTrue(all(len(corner) == q for corner in inner_corners(gluing)))
            self.assertEqual(rim_word(gluing, side), word)
        else:
            self.assertEqual(told[0], "barred")
            lot = told[1]
            self.assertIs(type(lot), tuple)
            self.assertEqual(list(lot), sorted(set(lot)))
            self.assertIn((word, n), lot)
            for other, m in lot:
                self.assertTrue(len(other) > 1 and all(0 < letter < q for letter in other) and 0 < m <= n)
            self.assertIsNone(first_open(q, sizes, lot), (q, sizes, word, n))
        self.assertEqual(len(told), 3 if told[0] == "disc" else 2)
        self.assertIsNone(judge_fill_with(q, sizes, word, n, told))

    def test_against_all_odd_discs(self):
        for q, sizes, most in ((3, (3,), 3), (3, (5, 6), 3), (3, (4, 5), 4), (4, (3, 4), 3), (4, (3, 5), 3),
                               (5, (3, 4), 3), (5, (3,), 5), (6, (3, 4), 3), (3, (3, 4, 8), 3)):
            by_words = odd_discs(q, sizes, most)
            words = sorted({word for words in by_words for word in words})
            for word in words[::1 + len(words) // 40]:
                least = [n for n, found in enumerate(by_words) if word in found][0]
                for n in range(1, most + 1):
                    told = fill_with(q, sizes, word, n)
                    self.assertEqual(told[0], "disc" if n >= least else "barred", (q, sizes, word, n))
                    self.assert_right(q, sizes, word, n, told)

    def test_words_of_no_disc(self):
        barred = 0
        for q, sizes, word, n in tasks():
            told = fill_with(q, sizes, word, n)
            self.assert_right(q, sizes, word, n, told)
            barred += told[0] == "barred" and len(told[1]) > 1
        self.assertGreater(barred, 30)

    def test_words_that_are_due_nothing(self):
        for q, sizes, word, n in ((3, (5, 6), (1, 2, 1), 3), (3, (5,), (2, 2), 1), (6, (3,), (5, 5), 2),
                                  (4, (8,), (1, 1), 6)):
            self.assertEqual(due_counts(q, sizes, word, n), [])
            self.assertEqual(fill_with(q, sizes, word, n), ("barred", ((word, n),)))

    def test_two_letters(self):
        # Two pentagons and two triangles, all but closed: the rim goes round two sides.
        told = fill_with(3, (3, 5), (2, 2), 4)
        self.assert_right(3, (3, 5), (2, 2), 4, told)
        self.assertEqual((told[0], sorted(told[1][0])), ("disc", [3, 3, 5, 5]))
        self.assertEqual(fill_with(3, (3, 5), (2, 2), 3)[0], "barred")
        for q, sizes, n in ((3, (3, 4), 6), (4, (3,), 6), (5, (3,), 6), (6, (3,), 6), (3, (4, 6), 6),
                            (4, (3, 4, 5), 5)):
            for word in itertools.product(range(1, q), repeat=2):
                self.assert_right(q, sizes, word, n, fill_with(q, sizes, word, n))

    def test_rests_of_two_letters(self):
        for q, sizes, word, n in ((3, (3, 4), (1, 1, 2, 2), 3), (3, (3, 4), (1, 2, 2, 1), 4), (4, (3,), (1, 2, 2), 3),
                                  (4, (3, 4, 5), (1, 3, 2, 1), 4)):
            _, lot = fill_with(q, sizes, word, n)
            rest, = [pair for pair in lot if len(pair[0]) == 2]
            self.assert_right(q, sizes, word, n, ("barred", lot))
            # That rest is what bars the word: sums alone do not, nor do fewer tiles.
            self.assertEqual(rest[1], n - 1)
            less = tuple(sorted([(rest[0], n - 2), (word, n)]))
            for each in (((word, n),), less):
                self.assertEqual(judge_fill_with(q, sizes, word, n, ("barred", each)), ("open", (word, n)))

    def test_rests_that_are_filled_but_not_together(self):
        # Squares count for nothing with four at each corner, so each rest is due one tile: but two need two. The first
        # tile lies between two others on the left and two on the right, the second time with one more upon it.
        row = ((4,) * 5, (((0, 1), (1, 3)), ((0, 3), (3, 1)), ((1, 1), (2, 3)), ((3, 3), (4, 1))))
        tee = ((4,) * 6, (((0, 1), (1, 3)), ((0, 2), (5, 0)), ((0, 3), (3, 1)), ((1, 1), (2, 3)), ((3, 3), (4, 1))))
        # Triangles likewise, with six at each corner: the first one lies between two strips of two.
        strip = ((3,) * 5, (((0, 1), (1, 0)), ((0, 2), (3, 0)), ((1, 1), (2, 0)), ((3, 2), (4, 0))))
        for q, gluing in ((4, row), (4, tee), (6, strip)):
            tiles = len(gluing[0])
            word = rim_word(gluing, (0, 0))
            sizes = gluing[0][:1]
            self.assertEqual(fill_with(q, sizes, word, tiles)[0], "disc")
            for n in range(1, tiles):
                told = fill_with(q, sizes, word, n)
                self.assertEqual(told[0], "barred")
                self.assert_right(q, sizes, word, n, told)

    def test_longer_words(self):
        for q, sizes, word, n in ((3, (5, 6), (1, 2) * 5, 6), (3, (4, 5, 6), (1, 2, 2, 2, 2, 2, 1, 1, 2), 6),
                                  (3, (3, 4, 8), (2, 2, 2, 2, 1, 1, 2, 2, 1, 1), 6),
                                  (4, (3, 4, 5), (3, 3, 2, 2, 1, 3, 2, 2, 1, 1), 6),
                                  (5, (3, 4, 8), (2, 2, 3, 2, 2, 2, 1, 1, 3, 2), 6),
                                  (6, (3, 4, 5), (1, 4, 2, 3, 2, 1, 2, 2, 1, 2), 5)):
            told = fill_with(q, sizes, word, n)
            self.assertIsNone(judge_fill_with(q, sizes, word, n, told))
        self.assertEqual(fill_with(3, (5, 6), (1, 2) * 5, 6)[0], "disc")
        self.assertEqual(fill_with(3, (5, 6), (1, 2) * 5, 5)[0], "barred")


class Judge(unittest.TestCase):
    def test_form(self):
        word = (1,) * 5
        good = ("disc", PENTAGON, (0, 3))
        self.assertIsNone(judge_fill_with(3, (5, 6), word, 2, good))
        for value in (None, good[:2], (*good, 1), list(good), ("disk", *good[1:]), ("disc", [(5,), ()], (0, 3)),
                      ("disc", PENTAGON, (0, 5)), ("disc", PENTAGON, [0, 3]), ("disc", PENTAGON, (False, 3)),
                      ("disc", TWO, (0, 0)), ("disc", TWO, (1, 0)), ("barred", *good[1:]), ("barred",), ("barred", ()),
                      ("barred", [(word, 2)]), ("barred", ([word, 2],)), ("barred", ((word, 0),)),
                      ("barred", ((word, 3),)), ("barred", ((word, True),)), ("barred", ((list(word), 2),)),
                      ("barred", (((1,), 2),)), ("barred", (((), 2),)), ("barred", (((1, 3), 2),)),
                      ("barred", (((1, 0), 2),)), ("barred", (((1, True), 2),)), ("barred", ((word, 2), (word, 2))),
                      ("barred", ((word, 2), (word, 1))), ("barred", (((1, 2), 2), ((1, 1), 2))),
                      ("barred", ((word, 2, 2),)), ("barred", (word, 2)), ("disc", (word, 2)),
                      ("barred", ((word, 2),), 1)):
            self.assertEqual(judge_fill_with(3, (5, 6), word, 2, value), ("form",), value)

    def test_faults_of_discs_in_their_order(self):
        word = rim_word(TWO, (0, 1))
        self.assertIsNone(judge_fill_with(3, (5, 6), word, 2, ("disc", TWO, (0, 1))))
        self.assertEqual(judge_fill_with(3, (5, 7), (1, 1), 1, ("disc", BAND, (0, 0))), ("disc",))
        self.assertEqual(judge_fill_with(3, (5, 7), (1, 1), 1, ("disc", TWO, (0, 1))), ("size", 1))
        self.assertEqual(judge_fill_with(3, (6, 7), (1, 1), 1, ("disc", TWO, (0, 1))), ("size", 0))
        cap = ((3, 3, 3), (((0, 1), (1, 2)), ((0, 2), (2, 1)), ((1, 1), (2, 2))))
        corner, = inner_corners(cap)
        self.assertEqual(judge_fill_with(4, (3, 4), (1, 1), 2, ("disc", cap, (0, 0))), ("inner", corner))
        self.assertEqual(judge_fill_with(4, (4,), (1, 1), 2, ("disc", cap, (0, 0))), ("size", 0))
        self.assertEqual(judge_fill_with(3, (3, 4), (1, 1), 2, ("disc", cap, (0, 0))), ("many", 3))
        self.assertEqual(judge_fill_with(3, (3, 4), (1, 1), 3, ("disc", cap, (0, 0))), ("word", (2, 2, 2)))
        self.assertIsNone(judge_fill_with(3, (3, 4), (2, 2, 2), 3, ("disc", cap, (0, 0))))
        self.assertEqual(judge_fill_with(3, (5, 6), (1, 1), 1, ("disc", TWO, (0, 1))), ("many", 2))
        self.assertEqual(judge_fill_with(3, (5, 6), word[1:] + word[:1], 2, ("disc", TWO, (0, 1))), ("word", word))
        # No rim side can be told of a ball.
        self.assertEqual(judge_fill_with(3, (3,), (1, 1), 2, ("disc", BALL, (0, 0))), ("form",))

    def test_lots_that_lack_the_pair(self):
        word = (1, 1, 1, 1)
        for lot in ((((1, 1), 3),), ((word, 2),), ((word, 1), (word, 2)), (((1, 1, 1, 2), 3),)):
            self.assertEqual(judge_fill_with(3, (5, 6), word, 3, ("barred", lot)), ("lacks",))

    def test_open_pairs(self):
        # A way without rests is never let.
        self.assertEqual(judge_fill_with(3, (5, 6), (1,) * 5, 2, ("barred", (((1,) * 5, 2),))), ("open", ((1,) * 5, 2)))
        self.assertEqual(judge_fill_with(3, (5, 6), (1,) * 6, 1, ("barred", (((1,) * 6, 1),))), ("open", ((1,) * 6, 1)))
        # A way with as many rests as there are tiles always is: here the first tile would have two.
        word = (2, 2, 1, 3, 1)
        self.assertEqual(fill_with(5, (3,), word, 3)[0], "disc")
        self.assertEqual(judge_fill_with(5, (3,), word, 3, ("barred", ((word, 3),))), ("open", (word, 3)))
        self.assertIsNone(judge_fill_with(5, (3,), word, 2, ("barred", ((word, 2),))))
        # The first one that is open is told: the word's own way is let, one of its rests being in the lot.
        told = judge_fill_with(5, (3,), word, 3, ("barred", (((1, 1, 1), 1), (word, 3))))
        self.assertTrue(exactly_equal(told, ("open", ((1, 1, 1), 1))))

    def test_open_pairs_as_the_point_tells(self):
        opens = {True: 0, False: 0}
        for q, sizes, word, n in tasks()[::2]:
            told = fill_with(q, sizes, word, n)
            lot = told[1] if told[0] == "barred" else ((word, n),)
            tried = [lot, ((word, n),), tuple(sorted({*lot, ((1, 1, 1), 1), ((1, 1), n)}))]
            tried += [tuple(sorted({*lot[:k], *lot[k + 1:], (word, n)})) for k in range(len(lot))][:6]
            tried += [tuple(sorted({(other, max(1, m - 1)) for other, m in lot} | {(word, n)}))]
            for each in tried:
                due = first_open(q, sizes, each)
                opens[due is None] += 1
                self.assertEqual(judge_fill_with(q, sizes, word, n, ("barred", each)), due and ("open", due))
        self.assertTrue(min(opens.values()) > 40, opens)

    def test_any_value(self):
        word = rim_word(TWO, (0, 1))
        values = [("disc", TWO, (0, 1)), fill_with(3, (5, 6), (1, 1, 1, 1), 3), ("barred", (((1, 1), 1), ((1, 1), 2)))]
        for value in STRANGE + [other for value in values for other in changes(value, STRANGE)]:
            told = judge_fill_with(3, (5, 6), word, 2, value)
            if told is None:
                self.assertEqual(value[0], "disc")
                self.assertEqual(rim_word(value[1], value[2]), word)
            elif told != ("form",):
                faults = {"barred": ("lacks", "open"), "disc": ("disc", "size", "inner", "many", "word")}
                self.assertIn(told[0], faults[value[0]])


if __name__ == "__main__":
    unittest.main()

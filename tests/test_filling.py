"""Rims filled or barred."""

import itertools
import unittest
from unittest import mock

from tests.helpers import APART, BALL, BAND, STRANGE, changes, discs_of, exactly_equal, rests_read, rising
from whatrims import filling
from whatrims.discs import all_discs
from whatrims.drawn import size_of
from whatrims.errors import TooMany
from whatrims.filling import all_fills, fill, filled_words, fills, judge_fill, put_first
from whatrims.forms import code
from whatrims.gluings import is_gluing, is_side, one_tile, rim_sides, sides_of
from whatrims.laying import laid_word, lays
from whatrims.pieces import is_disc, is_of
from whatrims.rims import rim_word
from whatrims.sums import least_turn
from whatrims.ways import is_word

KINDS = [(p, q) for p in range(3, 8) for q in range(3, 8)]
DOMINO = ((4, 4), (((0, 1), (1, 3)),))
ONE, TWO = (1, 1, 1, 1), (1, 1, 2, 1, 1, 2)

# Good words that no disc fills, of several kinds.
EMPTY = ((7, 3, (1,) * 12), (3, 3, (1, 2, 2, 2, 2)), (3, 4, (2, 2, 1)), (3, 4, (2, 3, 3, 2, 3, 3, 3)),
         (3, 5, (2, 2, 1)), (3, 7, (1, 2, 1, 1, 3)), (3, 7, (2, 2, 2, 1, 3, 1)), (4, 3, (1, 2, 1, 2)),
         (4, 3, (2, 2, 1, 2, 2, 2, 2, 2, 2, 1)), (4, 5, (1,) * 6), (5, 3, (1, 1, 2, 2)), (5, 3, (2, 2, 2, 2, 1) * 2),
         (5, 4, (1, 1, 2, 1, 1, 1, 1, 1, 2)))


def codes_by_words(p, q, n):
    """Return the dict from the rim words of the discs of n tiles to their codes, for each rim side one."""
    if (p - 2) * (q - 2) >= 3:
        discs = all_discs(p, q, n)
    else:
        discs = [gluing for gluing in discs_of(p, q, n) if len(gluing[0]) == n]
    found = {}
    for gluing in discs:
        for side in rim_sides(gluing):
            found.setdefault(rim_word(gluing, side), set()).add(code(gluing, side))
    return {word: sorted(found[word]) for word in found}


def first_open(p, q, lot):
    """Return the first good word of a lot and its first way with no rest in it, None if there is none, as told."""
    for word in lot:
        if size_of(p, q, word)[0] == "size":
            for way in rising(word, p - 2):
                words = rests_read(q, word, way, False)
                if words is not None and all(size_of(p, q, rest)[0] == "size" for rest in words):
                    if not any(rest in lot for rest in words):
                        return word, way
    return None


class Fill(unittest.TestCase):
    def assert_barred(self, p, q, word, told):
        self.assertEqual(told[0], "barred")
        self.assertEqual(len(told), 2)
        lot = told[1]
        self.assertIs(type(lot), tuple)
        self.assertIn(word, lot)
        self.assertEqual(list(lot), sorted(set(lot)))
        self.assertTrue(all(is_word(p, q, other) for other in lot))
        self.assertIsNone(first_open(p, q, lot), (p, q, word))
        self.assertIsNone(judge_fill(p, q, word, told))

    def assert_filled(self, p, q, word, told):
        self.assertEqual(told[0], "disc")
        _, gluing, side = told
        self.assertTrue(is_gluing(gluing) and is_side(gluing, side))
        self.assertTrue(is_disc(gluing) and is_of(gluing, p, q))
        self.assertEqual(rim_word(gluing, side), word)
        self.assertIsNone(judge_fill(p, q, word, told))

    def test_words_of_discs(self):
        for p, q in KINDS:
            for gluing in discs_of(p, q, 4 if p < 6 else 3)[-30:]:
                for side in rim_sides(gluing):
                    word = rim_word(gluing, side)
                    self.assert_filled(p, q, word, fill(p, q, word))

    def test_greater_discs(self):
        for p, q, n in ((3, 4, 14), (3, 5, 14), (3, 6, 14), (3, 7, 14), (4, 3, 9), (4, 4, 14), (4, 5, 14), (5, 3, 12),
                        (5, 4, 14), (6, 3, 14), (7, 3, 12)):
            word, tiles = (1,) * p, 1
            for step in range(n - 1):
                # Mostly the tile that lies on most sides is laid.
                found = sorted(lays(p, q, word), key=lambda pair: (-pair[1], pair[0]))
                if found:
                    i, k = found[step * step % len(found)] if step % 3 == 2 else found[0]
                    word, tiles = laid_word(word, i, k, p), tiles + 1
            self.assertGreater(tiles, 4)
            told = fill(p, q, word)
            self.assert_filled(p, q, word, told)
            self.assertEqual(len(told[1][0]), tiles)

    def test_bad_words(self):
        for p, q in KINDS:
            for b in (3, 4, 5):
                for word in itertools.islice(itertools.product(range(1, q), repeat=b), 0, None, 1 + (q - 1) ** b // 20):
                    if size_of(p, q, word)[0] == "none":
                        self.assert_barred(p, q, word, fill(p, q, word))

    def test_good_words_that_no_disc_fills(self):
        barred = 0
        for p, q in ((3, 3), (3, 4), (3, 5), (3, 7), (4, 3), (4, 5), (5, 3), (5, 4), (7, 3)):
            for b in range(3, 9):
                words = itertools.product(range(1, q), repeat=b)
                for word in itertools.islice(words, 0, None, 1 + (q - 1) ** b // 300):
                    told = size_of(p, q, word)
                    if told[0] == "size" and told[1] < 10:
                        told = fill(p, q, word)
                        if told[0] == "barred":
                            barred += 1
                            self.assert_barred(p, q, word, told)
                        else:
                            self.assert_filled(p, q, word, told)
        self.assertGreater(barred, 200)

    def test_words_with_lots_of_several_words(self):
        sizes = []
        for p, q, word in EMPTY:
            self.assertEqual(size_of(p, q, word)[0], "size")
            told = fill(p, q, word)
            self.assert_barred(p, q, word, told)
            sizes.append(len(told[1]))
        self.assertEqual(min(sizes), 1)
        self.assertGreater(max(sizes), 10)


class Judge(unittest.TestCase):
    def test_each_fault(self):
        self.assertIsNone(judge_fill(4, 4, TWO, ("disc", DOMINO, (0, 3))))
        self.assertIsNone(judge_fill(4, 4, TWO, ("disc", DOMINO, (1, 1))))
        for value in (None, ("disc", DOMINO), ("disc", DOMINO, (0, 3), 1), ["disc", DOMINO, (0, 3)],
                      ("disk", DOMINO, (0, 3)), ("disc", ((4, 4), [((0, 1), (1, 3))]), (0, 3)),
                      ("disc", DOMINO, (0, 4)), ("disc", DOMINO, [0, 3]), ("disc", DOMINO, (False, 3)),
                      ("disc", DOMINO, None), ("barred", DOMINO, (0, 3)), ("disc", (TWO,)), ("barred", ()),
                      ("barred", [TWO]), ("barred", (TWO, TWO)), ("barred", (TWO, ONE)), ("barred",),
                      ("barred", (TWO,), 1), ("barred", ((1, 1),)), ("barred", (ONE, (1, 1, 4))),
                      ("barred", (list(TWO),)), ("barred", TWO), ("barred", ((1, 1, True), TWO))):
            self.assertEqual(judge_fill(4, 4, TWO, value), ("form",), value)
        for gluing, side in ((BAND, (0, 0)), (BAND, (0, 1)), (APART, (0, 1)), (BALL, (0, 0)), (((3,), ()), (0, 0)),
                             (((4, 3), (((0, 1), (1, 2)),)), (0, 3)), (((4, 4, 4), DOMINO[1]), (0, 3))):
            self.assertEqual(judge_fill(4, 4, TWO, ("disc", gluing, side)), ("disc",), gluing)
        # Not of the kind, as there is a corner of four tiles.
        block = ((4, 4, 4, 4), (((0, 1), (1, 3)), ((0, 2), (3, 0)), ((1, 2), (2, 0)), ((2, 3), (3, 1))))
        self.assertEqual(judge_fill(4, 5, TWO, ("disc", block, (0, 1))), ("disc",))
        self.assertEqual(judge_fill(4, 4, TWO, ("disc", block, (0, 1))), ("rim",))
        self.assertEqual(judge_fill(4, 4, TWO, ("disc", DOMINO, (1, 3))), ("rim",))
        self.assertEqual(judge_fill(4, 4, TWO, ("disc", DOMINO, (1, 2))), ("word", (1, 2, 1, 1, 2, 1)))
        self.assertEqual(judge_fill(4, 4, TWO, ("disc", one_tile(4), (0, 0))), ("word", ONE))
        self.assertEqual(judge_fill(4, 4, TWO, ("barred", (ONE, (1, 1, 1, 2)))), ("lacks",))

    def test_open_words(self):
        told = judge_fill(4, 4, TWO, ("barred", (TWO,)))
        self.assertTrue(exactly_equal(told, ("open", TWO, ((2, 0), (5, 1)))))
        # A way without rests is open in each lot; a bad word has no way.
        told = judge_fill(4, 4, TWO, ("barred", ((1, 1, 1), ONE, TWO)))
        self.assertTrue(exactly_equal(told, ("open", ONE, ((2, 0), (3, 0)))))
        told = judge_fill(4, 4, TWO, ("barred", (ONE, TWO)))
        self.assertEqual(told, ("open", ONE, ((2, 0), (3, 0))))
        self.assertIsNone(judge_fill(4, 4, (1, 1, 1), ("barred", ((1, 1, 1), (2, 2, 2)))))

    def test_open_words_as_the_point_tells(self):
        opens = 0
        for p, q, word in EMPTY:
            lot = fill(p, q, word)[1]
            filled = [rim_word(gluing, rim_sides(gluing)[0]) for gluing in discs_of(p, q, 3)[:4]]
            for size in range(len(lot) + 1):
                for kept in itertools.islice(itertools.combinations(lot, size), 4):
                    tried = tuple(sorted({word, *kept}))
                    for more in ([], filled, filled[:1], filled[1:2]):
                        told = judge_fill(p, q, word, ("barred", tuple(sorted({*tried, *more}))))
                        due = first_open(p, q, tuple(sorted({*tried, *more})))
                        self.assertEqual(told, due and ("open", *due))
                        opens += due is not None
        self.assertGreater(opens, 100)

    def test_any_value(self):
        values = [("disc", DOMINO, (0, 3)), ("barred", (ONE, TWO)), fill(7, 3, (1,) * 12)]
        for value in STRANGE + [other for value in values for other in changes(value, STRANGE)]:
            told = judge_fill(4, 4, TWO, value)
            if told is None:
                self.assertEqual(value[0], "disc")
                self.assertEqual(rim_word(value[1], value[2]), TWO)
            elif told != ("form",):
                self.assertIn(value[0], ("disc", "barred"))
                self.assertIn(told[0], {"disc": ("disc", "rim", "word"), "barred": ("lacks", "open")}[value[0]])

    def test_what_is_told_is_judged_by_other_sides_too(self):
        for side in sides_of(DOMINO):
            told = judge_fill(4, 4, TWO, ("disc", DOMINO, side))
            if side in ((0, 1), (1, 3)):
                self.assertEqual(told, ("rim",))
            else:
                word = rim_word(DOMINO, side)
                self.assertEqual(told, None if word == TWO else ("word", word))


class Counts(unittest.TestCase):
    def test_against_all_discs_of_a_kind(self):
        for p, q, most in ((3, 3, 3), (3, 4, 6), (3, 5, 6), (3, 6, 7), (3, 7, 6), (4, 3, 5), (4, 4, 6), (4, 5, 5),
                           (5, 3, 6), (5, 4, 4), (6, 3, 5), (6, 4, 3), (7, 3, 4), (7, 7, 2)):
            for n in range(1, most + 1):
                by_words = codes_by_words(p, q, n)
                for word in list(by_words)[::1 + len(by_words) // 40]:
                    self.assertTrue(exactly_equal(all_fills(p, q, word), by_words[word]), (p, q, word))
                    self.assertEqual(fills(p, q, word), len(by_words[word]))
                lengths = {len(word) for word in by_words}
                for b in range(3, 9):
                    for word in list(itertools.product(range(1, q), repeat=b))[::1 + (q - 1) ** b // 40]:
                        if size_of(p, q, word)[:2] == ("size", n) and word not in by_words:
                            self.assertEqual((fills(p, q, word), all_fills(p, q, word)), (0, []), (p, q, word, lengths))

    def test_no_fills_of_bad_words(self):
        for p, q, word in ((4, 4, (1, 1, 1)), (6, 3, (1,) * 5), (7, 3, (1,) * 6)):
            self.assertEqual((fills(p, q, word), all_fills(p, q, word)), (0, []))

    def test_too_many_fills(self):
        self.assertEqual(filling.MOST_FILLS, 200)
        with mock.patch.object(filling, "MOST_FILLS", 0):
            self.assertEqual(all_fills(7, 3, (1,) * 12), [])
            with self.assertRaises(TooMany):
                all_fills(4, 4, TWO)
        with mock.patch.object(filling, "MOST_FILLS", 1):
            self.assertEqual(all_fills(4, 4, TWO), [code(DOMINO, (0, 3))])

    def test_fills_ascend(self):
        # No word within reach is filled by two discs, so two are told here of one word.
        codes = [one_tile(4), code(DOMINO, (0, 3)), one_tile(3)]
        with mock.patch.object(filling.Fillings, "codes", lambda self, word: list(codes)):
            self.assertEqual(all_fills(4, 4, TWO), sorted(codes))

    def test_put_first_makes_what_all_fills_tells(self):
        self.assertEqual(put_first(4, 4, ONE, ((2, 0), (3, 0)), []), one_tile(4))
        self.assertEqual([put_first(4, 4, TWO, ((2, 0), (5, 1)), [(one_tile(4), (0, 2))])], all_fills(4, 4, TWO))


class Filled(unittest.TestCase):
    def test_against_all_words(self):
        for p, q, b in ((3, 3, 6), (3, 4, 6), (3, 5, 5), (3, 6, 4), (3, 7, 4), (4, 3, 8), (4, 4, 6), (4, 5, 5),
                        (4, 6, 4), (5, 3, 9), (5, 4, 6), (6, 3, 10), (7, 3, 10), (7, 7, 4)):
            due = [word for word in itertools.product(range(1, q), repeat=b)
                   if least_turn(word) == word and fills(p, q, word) > 0]
            self.assertTrue(exactly_equal(filled_words(p, q, b), due))
            self.assertEqual(due, sorted(due))

    def test_against_discs(self):
        self.assertEqual(filled_words(6, 3, 10), [(1, 1, 1, 1, 2, 1, 1, 1, 1, 2)])
        for p, q in ((4, 4), (5, 4), (4, 5)):
            by_lengths = {}
            for gluing in discs_of(p, q, 4):
                word = least_turn(rim_word(gluing, rim_sides(gluing)[0]))
                by_lengths.setdefault(len(word), set()).add(word)
            for b in (4, 5, 6):
                if (q - 1) ** b <= 2000:
                    found = [word for word in filled_words(p, q, b) if size_of(p, q, word)[1] <= 4]
                    self.assertEqual(found, sorted(by_lengths.get(b, ())))

    def test_too_many_words(self):
        for p in (3, 5, 7):
            for q, b in ((3, 10), (4, 6), (5, 5), (6, 4), (7, 4)):
                self.assertIs(type(filled_words(p, q, b)), list)
                for longer in (b + 1, b + 2, 12, 100, 10 ** 9):
                    with self.assertRaises(TooMany):
                        filled_words(p, q, longer)


if __name__ == "__main__":
    unittest.main()

"""Tiles laid on rims, the words behind laying, and rows of layings."""

import unittest

from tests.helpers import (APART, BAND, BLOCK, FAMILY, NAMED, ONE, STRANGE, TUBE, TWO, changes, discs_of, exactly_equal, lay)
from whatrims.errors import NotLaid
from whatrims.gluings import beside, is_gluing, mate_of, rim_sides
from whatrims.laying import begins, built, is_layings, laid, laid_word, lays, may_lay
from whatrims.pieces import is_disc, is_of
from whatrims.rims import rim_of, rim_word, rims

LAYINGS = ((4,), (1, 1, 4), (0, 2, 4), (3, 1, 3), (6, 2, 5), (0, 1, 24))


def slow_laid_word(word, i, k, s):
    """Say laid_word in other words: mark each corner, and follow the rim from where it begins."""
    many = len(word)
    gone = [(i + j) % many for j in range(1, k)]
    begin = 0 if 0 not in gone else (i + k) % many
    found = []
    for corner in [(begin + j) % many for j in range(many)]:
        if corner not in gone:
            found.append(word[corner] + (corner in (i, (i + k) % many)))
            if corner == i:
                found += [1] * (s - k - 1)
    return tuple(found)


def slow_is_layings(value):
    """Say is_layings in other words."""
    if type(value) is not tuple or not value:
        return False
    for n, entry in enumerate(value):
        if type(entry) is not tuple or len(entry) != (3 if n else 1):
            return False
        if any(type(part) is not int or part < 0 for part in entry) or entry[-1] not in range(3, 25):
            return False
    return True


class Laid(unittest.TestCase):
    def test_on_one_side_and_on_several(self):
        self.assertTrue(exactly_equal(laid(ONE, (0, 1), 1, 3), ((4, 3), (((0, 1), (1, 0)),))))
        self.assertTrue(exactly_equal(laid(ONE, (0, 1), 3, 5),
                                      ((4, 5), (((0, 1), (1, 2)), ((0, 2), (1, 1)), ((0, 3), (1, 0))))))

    def test_over_the_first_side_of_a_rim(self):
        self.assertEqual(laid(ONE, (0, 3), 2, 4), ((4, 4), (((0, 0), (1, 0)), ((0, 3), (1, 1)))))
        self.assertEqual(laid(TWO, (1, 1), 5, 24)[1], (
            ((0, 0), (2, 0)), ((0, 1), (1, 3)), ((0, 2), (2, 2)), ((0, 3), (2, 1)), ((1, 1), (2, 4)), ((1, 2), (2, 3))))

    def test_side_by_side_on_all_rims(self):
        tried = 0
        for gluing in FAMILY[::4] + NAMED + [beside(BAND, BLOCK)]:
            for side in rim_sides(gluing):
                rim = rim_of(gluing, side)
                for k in range(1, min(5, len(rim))):
                    for s in (max(3, k + 1), 7):
                        made = laid(gluing, side, k, s)
                        new = len(gluing[0])
                        self.assertTrue(is_gluing(made))
                        self.assertEqual(made[0], gluing[0] + (s,))
                        mates = [mate_of(made, (new, i)) for i in range(s)]
                        self.assertEqual(mates, [rim[k - 1 - i] for i in range(k)] + [None] * (s - k))
                        self.assertEqual([tie for tie in made[1] if tie[1][0] != new], list(gluing[1]))
                        self.assertTrue(exactly_equal(made, lay(gluing, side, k, s)))
                        tried += 1
        self.assertGreater(tried, 1000)

    def test_on_one_rim_of_several(self):
        self.assertEqual(rims(laid(BAND, (1, 2), 1, 3)), [((0, 0), (1, 0)), ((0, 2), (2, 1), (2, 2))])
        self.assertEqual(laid(APART, (1, 3), 2, 3)[1], (((0, 0), (2, 1)), ((1, 0), (3, 0)), ((1, 3), (3, 1))))
        # Five squares in a ring, laid on from outside and from inside.
        ring = ((4,) * 5, (((0, 1), (1, 3)), ((0, 3), (4, 1)), ((1, 1), (2, 3)), ((2, 1), (3, 3)), ((3, 1), (4, 3))))
        self.assertEqual(laid(ring, (3, 0), 3, 4)[1][0], ((0, 0), (5, 0)))
        self.assertEqual(set(laid(ring, (3, 0), 3, 4)[1]) - set(ring[1]),
                         {((3, 0), (5, 2)), ((4, 0), (5, 1)), ((0, 0), (5, 0))})
        self.assertEqual(set(laid(ring, (1, 2), 3, 4)[1]) - set(ring[1]),
                         {((1, 2), (5, 2)), ((0, 2), (5, 1)), ((4, 2), (5, 0))})

    def test_discs_stay_discs(self):
        for gluing in discs_of(4, 4, 3):
            for side in rim_sides(gluing):
                for k in range(1, min(6, len(rim_sides(gluing)))):
                    self.assertTrue(is_disc(laid(gluing, side, k, 6)))


class LaidWord(unittest.TestCase):
    def test_where_it_begins(self):
        word = (11, 12, 13, 14, 15)
        for i, k, s, due in ((0, 1, 4, (12, 1, 1, 13, 13, 14, 15)), (0, 1, 3, (12, 1, 13, 13, 14, 15)),
                             (0, 2, 3, (12, 14, 14, 15)), (0, 4, 5, (12, 16)), (0, 4, 7, (12, 1, 1, 16)),
                             (1, 2, 4, (11, 13, 1, 15, 15)), (1, 4, 6, (12, 13, 1)), (3, 2, 5, (12, 12, 13, 15, 1, 1)),
                             (4, 1, 3, (12, 12, 13, 14, 16, 1)), (4, 1, 4, (12, 12, 13, 14, 16, 1, 1)),
                             (2, 3, 4, (12, 12, 14)), (4, 2, 4, (13, 13, 14, 16, 1)), (4, 2, 3, (13, 13, 14, 16)),
                             (3, 4, 5, (14, 15)), (2, 4, 6, (13, 14, 1)), (4, 4, 5, (15, 16))):
            self.assertTrue(exactly_equal(laid_word(word, i, k, s), due), (i, k, s))

    def test_all_numbers(self):
        for word in ((7, 8), (1, 2, 3), (5, 1, 2, 2, 9, 4), tuple(range(1, 12))):
            for i in range(len(word)):
                for k in range(1, len(word)):
                    for s in (k + 1, k + 2, k + 5):
                        if s > 2:
                            self.assertTrue(exactly_equal(laid_word(word, i, k, s), slow_laid_word(word, i, k, s)))

    def test_against_the_rim_word(self):
        for gluing in discs_of(4, 4, 3) + discs_of(5, 3, 3) + [BAND, TUBE, APART, beside(BLOCK, TWO)]:
            for side in rim_sides(gluing):
                rim, word = rim_of(gluing, side), rim_word(gluing, side)
                many = len(rim)
                for i in range(many):
                    for k in range(1, min(6, many)):
                        made = laid(gluing, rim[i], k, 6)
                        # The rim side that begins at the corner at which the word begins.
                        begin = (len(gluing[0]), k) if i == 0 else side if i + k <= many else rim[i + k - many]
                        self.assertEqual(laid_word(word, i, k, 6), rim_word(made, begin))

    def test_a_word_of_two_hundred_letters_of_nine_figures(self):
        word = (999999999,) * 200
        self.assertEqual(laid_word(word, 190, 20, 24), (10 ** 9,) + word[:179] + (10 ** 9, 1, 1, 1))


class MayLay(unittest.TestCase):
    def test_numbers_within_and_beyond(self):
        word = (1, 2, 1, 1, 2, 1)
        self.assertEqual([may_lay(9, 3, word, i, 1) for i in range(8)],
                         [False, False, True, False, False, True, False, False])
        self.assertIs(may_lay(4, 3, word, 6, 1), False)
        self.assertIs(may_lay(4, 3, word, 10 ** 9, 1), False)
        self.assertIs(may_lay(4, 3, word, 0, 0), False)
        self.assertIs(may_lay(4, 3, word, 0, 2), True)
        self.assertIs(may_lay(3, 3, word, 0, 2), True)
        self.assertIs(may_lay(3, 3, word, 0, 3), False)
        # k below p, and below the word's length.
        full = (1,) + (2,) * 4 + (1,)
        self.assertIs(may_lay(6, 3, full, 0, 5), True)
        self.assertIs(may_lay(5, 3, full, 0, 5), False)
        self.assertIs(may_lay(12, 3, (1,) + (2,) * 5, 0, 6), False)
        self.assertIs(may_lay(12, 3, (1, 2, 2), 0, 10 ** 9), False)

    def test_letters_at_the_ends_and_between(self):
        for q in range(3, 13):
            for one in (q - 2, q - 1):
                for other in (q - 2, q - 1):
                    due = one == q - 2 and other == q - 2
                    self.assertIs(may_lay(6, q, (1, one, other, 1), 1, 1), due)
                    self.assertIs(may_lay(6, q, (q - 1, one, 1, other), 3, 2), due)
                    for between in (q - 2, q - 1):
                        self.assertIs(may_lay(6, q, (1, one, between, other, 1), 1, 2), due and between == q - 1)

    def test_lays_ascending_and_whole(self):
        for p, q in ((3, 6), (4, 4), (6, 3), (3, 12), (12, 3), (5, 5)):
            for word in ((1, 2), (2, 2, 1), (1, 2, 1, 1, 2, 1), (q - 1, q - 1, q - 2, q - 1), (q - 1,) * 9 + (1, 1)):
                due = [(i, k) for i in range(len(word)) for k in range(14) if may_lay(p, q, word, i, k)]
                self.assertTrue(exactly_equal(lays(p, q, word), due))
        self.assertTrue(exactly_equal(lays(4, 3, (2,) * 8), []))

    def test_lays_keep_the_kind(self):
        for p, q in ((4, 4), (3, 5), (6, 3), (5, 4)):
            for gluing in discs_of(p, q, 4)[::5]:
                first = rim_sides(gluing)[0]
                rim = rim_of(gluing, first)
                kept = [(i, k) for i in range(len(rim)) for k in range(1, min(p, len(rim)))
                        if is_of(laid(gluing, rim[i], k, p), p, q)]
                self.assertEqual(lays(p, q, rim_word(gluing, first)), kept)


class Layings(unittest.TestCase):
    def test_right_ones(self):
        for value in (LAYINGS, ((3,),), ((24,),), ((4,), (0, 0, 3)), ((4,), (10 ** 39, 10 ** 39, 24)), ((4,),) * 1):
            self.assertIs(is_layings(value), True)

    def test_wrong_ones(self):
        for value in STRANGE + [((4, 4),), ((0, 1, 4),), ((2,),), ((25,),), ((True,),), [(4,)], ([4],), (4,), ((),),
                                ((4,), (4,)), ((4,), (0, 1, 2)), ((4,), (0, 1, 25)), ((4,), (-1, 1, 4)),
                                ((4,), (0, -1, 4)), ((4,), (False, 1, 4)), ((4,), (0, True, 4)), ((4,), [0, 1, 4]),
                                [(4,), (0, 1, 4)], ((4,), (0, 1, 4, 4)), ((4,), ()), ((4,), (0, 1, -4)), ((4,), None)]:
            self.assertIs(is_layings(value), False, value)

    def test_parts_changed(self):
        for value in changes(LAYINGS[:3], STRANGE + [2, 3, 24, 25, (4,), (0, 1, 4)]):
            self.assertIs(is_layings(value), slow_is_layings(value), value)

    def test_step_by_step(self):
        word = (1,) * LAYINGS[0][0]
        gluing, side = ((LAYINGS[0][0],), ()), (0, 0)
        for n in range(1, len(LAYINGS) + 1):
            if n > 1:
                i, k, s = LAYINGS[n - 1]
                rim = rim_of(gluing, side)
                gluing = laid(gluing, rim[i], k, s)
                if i == 0:
                    side = (n - 1, k)
                elif i + k > len(word):
                    side = rim[i + k - len(word)]
                word = laid_word(word, i, k, s)
            self.assertTrue(exactly_equal(built(LAYINGS[:n]), gluing))
            self.assertTrue(exactly_equal(begins(LAYINGS[:n]), side))
            self.assertEqual(rim_word(gluing, side), word)

    def test_all_short_ones(self):
        for s in (3, 4):
            for i in range(6):
                for k in range(1, 5):
                    for more in ((0, 1, 4), (2, 2, 3), (4, 3, 5), (1, 2, 3)):
                        self.check_by_words(((s,), (i, k, 5), more))

    def check_by_words(self, layings):
        word = (1,) * layings[0][0]
        for n, (i, k, s) in list(enumerate(layings))[1:]:
            if i >= len(word) or k > s - 1 or k >= len(word):
                for call in (built, begins):
                    with self.assertRaises(NotLaid) as caught:
                        call(layings)
                    self.assertTrue(exactly_equal(caught.exception.number, n))
                return
            word = laid_word(word, i, k, s)
        self.assertTrue(is_disc(built(layings)))
        self.assertEqual(rim_word(built(layings), begins(layings)), word)

    def test_the_least_number_that_cannot_be_laid(self):
        for layings, due in ((((4,), (4, 1, 4)), 1), (((4,), (0, 0, 4)), 1), (((4,), (0, 4, 9)), 1),
                             (((9,), (0, 4, 4)), 1), (((4,), (0, 1, 4), (6, 1, 4)), 2), (((4,), (0, 1, 4), (5, 6, 9)), 2),
                             (((4,), (0, 1, 4), (5, 3, 3), (9, 9, 3)), 2), (((4,), (10 ** 39, 1, 4), (0, 0, 4)), 1),
                             (((3,), (0, 2, 3), (0, 2, 4)), 2), (((3,), (0, 2, 3), (2, 1, 4)), 2),
                             (((4,),) + ((0, 1, 4),) * 30 + ((0, 10 ** 39, 4),), 31)):
            for call in (built, begins):
                with self.assertRaises(NotLaid) as caught:
                    call(layings)
                self.assertTrue(exactly_equal(caught.exception.number, due), layings)
        self.assertEqual(built(((3,), (0, 2, 3), (1, 1, 3)))[0], (3, 3, 3))

    def test_sixty_entries(self):
        layings = ((24,),) + tuple((7 * n % 20, 1 + n % 3, 24) for n in range(59))
        gluing = built(layings)
        self.assertTrue(is_disc(gluing))
        word = (1,) * 24
        for i, k, s in layings[1:]:
            word = laid_word(word, i, k, s)
        self.assertEqual(rim_word(gluing, begins(layings)), word)


if __name__ == "__main__":
    unittest.main()

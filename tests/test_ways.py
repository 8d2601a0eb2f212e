"""Words of kinds, the ways of their first tiles, and discs taken apart at these."""

import itertools
import unittest

from tests.helpers import STRANGE, changes, discs_of, exactly_equal, rests_read, rising
from whatrims.drawn import size_of
from whatrims.filling import put_first
from whatrims.forms import code
from whatrims.gluings import mirrored, rim_sides
from whatrims.pieces import is_disc, is_of
from whatrims.rims import rim_word
from whatrims.ways import is_word, mirror_word, parts_of, rests, way_of, ways

KINDS = [(p, q) for p in range(3, 8) for q in range(3, 8)]
DISCS = [(p, q, gluing) for p, q, n in ((3, 3, 3), (3, 4, 5), (3, 5, 5), (3, 6, 5), (3, 7, 5), (4, 3, 5), (4, 4, 4),
                                        (4, 5, 4), (5, 3, 4), (5, 4, 3), (6, 3, 3), (7, 3, 3), (7, 7, 2))
         for gluing in discs_of(p, q, n)[-60:]]


def read_ways(p, q, word):
    """Return the ways of a word by the words of the document, one by one, with their rests."""
    if size_of(p, q, word)[0] != "size":
        return []
    found = []
    for way in rising(word, p - 2):
        words = rests_read(q, word, way, False)
        if words is not None and all(size_of(p, q, rest)[0] == "size" for rest in words):
            found.append((way, words))
    return found


def some_words():
    """Return words of many kinds, good ones and bad ones, all short ones among them."""
    found = []
    for p, q in KINDS:
        for b in (3, 4, 5, 6, 7):
            words = list(itertools.product(range(1, q), repeat=b))
            found += [(p, q, word) for word in words[::1 + len(words) // 60]]
            good = [word for word in words[::1 + len(words) // 9000] if size_of(p, q, word)[0] == "size"]
            found += [(p, q, word) for word in good[::1 + len(good) // 12]]
    return found


class Words(unittest.TestCase):
    def test_letters_and_lengths(self):
        for q in range(3, 8):
            for word in [(1, 1, 1), (q - 1,) * 3, (1, q - 1) * 100]:
                self.assertIs(is_word(4, q, word), True)
            for value in [(), (1,), (1, 1), (0, 1, 1), (1, q, 1), (1, 1, q), (1, -1, 1), (True, 1, 1), (1, 1, False),
                          [1, 1, 1], (1, 1, [1]), ((1,), 1, 1), ("1", 1, 1), (1, 1, None), "111", {1: 1, 2: 1, 3: 1}]:
                self.assertIs(is_word(4, q, value), False, value)
        self.assertTrue(is_word(3, 3, (1,) * 2000))

    def test_any_value(self):
        for value in STRANGE + changes(((1, 2, 1), (1, 1)), STRANGE):
            self.assertIs(is_word(3, 4, value), False)
        for value in changes((1, 2, 3, 1), STRANGE):
            due = isinstance(value, tuple) and len(value) > 2 and all(type(part) is int for part in value)
            self.assertIs(is_word(3, 4, value), due and all(0 < part < 4 for part in value), value)

    def test_mirrored_discs(self):
        for p, q, gluing in DISCS:
            for t, i in rim_sides(gluing):
                told = rim_word(mirrored(gluing), (t, p - 1 - i))
                self.assertTrue(exactly_equal(mirror_word(rim_word(gluing, (t, i))), told))

    def test_mirror_word_goes_round_the_other_way(self):
        self.assertEqual(mirror_word((1, 2, 3)), (2, 1, 3))
        self.assertEqual(mirror_word((1, 2, 3, 4, 5)), (2, 1, 5, 4, 3))
        self.assertEqual(mirror_word(mirror_word((1, 2, 3, 4, 5))), (1, 2, 3, 4, 5))


class Ways(unittest.TestCase):
    def test_as_the_point_tells(self):
        seen = {"none": 0, "some": 0, "no rests": 0, "two rests": 0}
        for p, q, word in some_words():
            due = read_ways(p, q, word)
            found = ways(p, q, word)
            self.assertTrue(exactly_equal(found, [way for way, _ in due]), (p, q, word))
            self.assertEqual(found, sorted(found))
            for way, words in due:
                self.assertTrue(exactly_equal(rests(p, q, word, way), words), (p, q, word, way))
                seen["no rests"] += words == []
                seen["two rests"] += len(words) > 1
            seen["some" if due else "none"] += 1
        self.assertTrue(all(number > 5 for number in seen.values()), seen)

    def test_longer_words(self):
        for p, q, word in ((3, 5, (2, 3) * 5), (3, 6, (2, 3) * 6), (3, 7, (4, 3, 2, 3, 4, 2, 3, 3, 2, 2)),
                           (4, 4, (1, 2, 2) * 4), (4, 5, (1, 2, 3) * 4), (4, 3, (2,) * 12),
                           (5, 3, (2, 2, 2, 2, 1, 2, 2, 2, 2, 1))):
            self.assertEqual(ways(p, q, word), [way for way, _ in read_ways(p, q, word)])

    def test_bad_words_have_no_ways(self):
        bad = [(p, q, word) for p, q, word in some_words() if size_of(p, q, word)[0] == "none"]
        self.assertGreater(len(bad), 200)
        for p, q, word in bad + [(4, 4, (1, 1, 1)), (4, 4, (2, 2, 2)), (6, 3, (1,) * 5), (3, 6, (1, 1, 2))]:
            self.assertEqual(size_of(p, q, word)[0], "none")
            self.assertTrue(exactly_equal(ways(p, q, word), []))

    def test_one_tile_is_a_way_without_rests(self):
        for p, q in KINDS:
            way = tuple([(i, 0) for i in range(2, p)])
            self.assertIn(way, ways(p, q, (1,) * p))
            self.assertEqual(rests(p, q, (1,) * p, way), [])

    def test_a_first_tile_that_touches_the_rim_at_corners_alone(self):
        # A triangle with others over its two sides that are not the first one.
        self.assertEqual(ways(3, 5, (2, 2, 1, 3, 1)), [((3, 1),)])
        self.assertEqual(rests(3, 5, (2, 2, 1, 3, 1), ((3, 1),)), [(1, 1, 1), (1, 1, 1)])
        # A square likewise: the word begins at one of its corners.
        word = (2, 2, 1, 1, 3, 1, 1, 3, 1, 1)
        self.assertEqual(ways(4, 4, word), [((4, 1), (7, 1))])
        self.assertEqual(rests(4, 4, word, ((4, 1), (7, 1))), [(1, 1, 1, 1)] * 3)

    def test_sizes_add_up(self):
        for p, q, word in some_words():
            told = size_of(p, q, word)
            for way in ways(p, q, word):
                sizes = [size_of(p, q, rest)[1] for rest in rests(p, q, word, way)]
                self.assertEqual(sum(sizes) + 1, told[1])


class Discs(unittest.TestCase):
    def test_way_of_is_one_of_the_ways(self):
        for p, q, gluing in DISCS:
            for side in rim_sides(gluing):
                word = rim_word(gluing, side)
                self.assertTrue(any(exactly_equal(way_of(p, q, gluing, side), way) for way in ways(p, q, word)))

    def test_parts_fill_the_rests(self):
        for p, q, gluing in DISCS:
            for side in rim_sides(gluing):
                parts = parts_of(p, q, gluing, side)
                words = rests(p, q, rim_word(gluing, side), way_of(p, q, gluing, side))
                self.assertIs(type(parts), list)
                self.assertEqual(len(parts), len(words))
                for (part, first), word in zip(parts, words):
                    self.assertEqual(first, (0, 0))
                    self.assertTrue(is_disc(part) and is_of(part, p, q))
                    self.assertEqual(part, code(part, (0, 0)))
                    self.assertEqual(rim_word(part, first), word)
                self.assertEqual(sum(len(part[0]) for part, _ in parts) + 1, len(gluing[0]))

    def test_put_together_again(self):
        for p, q, gluing in DISCS:
            for side in rim_sides(gluing):
                word, way = rim_word(gluing, side), way_of(p, q, gluing, side)
                parts = parts_of(p, q, gluing, side)
                told = code(gluing, side)
                self.assertTrue(exactly_equal(put_first(p, q, word, way, parts), told))
                self.assertTrue(exactly_equal(put_first(p, q, word, way, tuple(parts)), told))

    def test_put_first_of_any_named_discs(self):
        # The rests need not be told from their sides (0, 0) on.
        for p, q, gluing in DISCS[::7]:
            for side in rim_sides(gluing):
                word, way = rim_word(gluing, side), way_of(p, q, gluing, side)
                parts = []
                for part, first in parts_of(p, q, gluing, side):
                    other = code(part, (len(part[0]) - 1, 1))
                    parts.append((other, [each for each in rim_sides(other) if code(other, each) == part][0]))
                self.assertEqual(put_first(p, q, word, way, parts), code(gluing, side))


if __name__ == "__main__":
    unittest.main()

"""What the parts of the program say of one and the same gluing agrees."""

import unittest

from tests.helpers import discs_of, exactly_equal
from whatrims.closed import ball_of, glued, halves, ring_fault
from whatrims.coils import coil, coil_rim
from whatrims.console import Console
from whatrims.corners import inner_corners, rim_corners
from whatrims.deeds import deed_text, read_deed, thing_text
from whatrims.discs import all_discs, counted, is_disc_form
from whatrims.drawn import size_of
from whatrims.duals import dual
from whatrims.filling import all_fills, fill, fills, judge_fill, put_first
from whatrims.forms import (code, form, is_like, is_mirrorlike, judge_likening, likening, mirror_form, starts)
from whatrims.gluings import mate_of, mirrored, named, rim_sides
from whatrims.house import House
from whatrims.laying import begins, built, laid_word
from whatrims.odd import due_counts, fill_with, judge_fill_with
from whatrims.over import within_ring
from whatrims.pieces import counts, handles, is_ball, is_disc, is_of, kind_fault, pieces, worth
from whatrims.rims import rim_of, rim_word, rim_words
from whatrims.rings import ring, ringed
from whatrims.sums import (corners_gap, corners_sum, least_turn, over_corners, over_tiles, rim_corners_sum, rim_length,
                           rim_sum, tiles_sum, turned_word, worth_corners, worth_sum)
from whatrims.taking import judge_layings, layings_of, not_disc, taken, takers
from whatrims.texts import gluing_text, read_gluing, read_word, word_text
from whatrims.ways import mirror_word, parts_of, rests, way_of, ways

KINDS = ((3, 3, 3), (3, 4, 5), (3, 5, 5), (3, 6, 6), (3, 7, 5), (4, 3, 5), (4, 4, 5), (4, 5, 4), (5, 3, 5), (5, 4, 4),
         (6, 3, 4), (6, 4, 3), (7, 3, 3), (7, 7, 2))
BALLS = ((3, 3), (4, 3), (3, 4), (5, 3), (3, 5))


def discs():
    """Return discs of many kinds, each as (p, q, gluing), greater ones among them."""
    found = []
    for p, q, n in KINDS:
        of_kind = discs_of(p, q, n)
        found += [(p, q, gluing) for gluing in of_kind[:2] + of_kind[-12::2]]
    for p, q in ((3, 6), (3, 7), (4, 4), (4, 5), (5, 4), (6, 3), (7, 3)):
        found += [(p, q, coil(p, q, n)) for n in (7, 10, 13)]
    return found


def turns(gluing):
    """Return gluings that are like one, named anew in several ways."""
    many = len(gluing[0])
    found = []
    for step in (1, 2, 3):
        order = list(range(many))[::-1]
        order = order[step % many:] + order[:step % many]
        found.append(named(gluing, tuple(order), tuple([(t * step + 1) % size for t, size in enumerate(gluing[0])])))
    return found


DISCS = discs()


class Discs(unittest.TestCase):
    def test_sums_and_sizes(self):
        for p, q, gluing in DISCS:
            word, = rim_words(gluing)
            tiles, sides, many, inner = counts(gluing)
            self.assertTrue(is_disc(gluing) and is_of(gluing, p, q) and not_disc(gluing) is None)
            self.assertEqual((worth(gluing), handles(gluing), over_corners(gluing, q), over_tiles(gluing, p)),
                             (1, 0, 0, 0))
            self.assertEqual(corners_gap(gluing, p), 0)
            self.assertEqual(tiles_sum(gluing, q), rim_sum(q, word))
            self.assertEqual(tiles_sum(gluing, q), worth_sum(gluing, q))
            self.assertEqual(corners_sum(gluing, p), rim_corners_sum(p, word))
            self.assertEqual(corners_sum(gluing, p), worth_corners(gluing, p))
            self.assertEqual(rim_length(p, tiles, inner), len(word))
            self.assertEqual((many - inner, len(rim_corners(gluing))), (len(word), len(word)))
            self.assertEqual(size_of(p, q, word), ("size", tiles, inner))

    def test_gluings_named_anew(self):
        for p, q, gluing in DISCS:
            word = rim_word(gluing, rim_sides(gluing)[0])
            for other in turns(gluing):
                self.assertEqual(form(other), form(gluing))
                self.assertEqual(len(starts(other)), len(starts(gluing)))
                told = likening(gluing, other)
                self.assertEqual((told[0], judge_likening(gluing, other, told)), ("like", None))
                self.assertEqual(counts(other), counts(gluing))
                self.assertEqual(kind_fault(other, p, q), None)
                # The rim is the same, begun elsewhere.
                self.assertEqual(least_turn(rim_word(other, rim_sides(other)[0])), least_turn(word))
                self.assertIsNone(judge_layings(other, layings_of(gluing)))
                self.assertEqual(len(takers(other)), len(takers(gluing)))

    def test_mirrored_gluings(self):
        for p, q, gluing in DISCS:
            other = mirrored(gluing)
            self.assertTrue(is_disc(other) and is_of(other, p, q))
            self.assertEqual(counts(other), counts(gluing))
            self.assertEqual(is_mirrorlike(gluing), form(other) == form(gluing))
            self.assertEqual(mirror_form(other), mirror_form(gluing))
            for t, i in rim_sides(gluing)[::3]:
                word, back = rim_word(gluing, (t, i)), rim_word(other, (t, p - 1 - i))
                self.assertEqual(mirror_word(word), back)
                self.assertEqual(size_of(p, q, back), size_of(p, q, word))
                self.assertEqual(fills(p, q, back), fills(p, q, word))
                self.assertEqual(len(ways(p, q, back)), len(ways(p, q, word)))

    def test_layings_and_takings(self):
        for p, q, gluing in DISCS:
            layings = layings_of(gluing)
            again = built(layings)
            self.assertTrue(is_like(again, gluing))
            # The word that the layings tell is that of the rim.
            word = (1,) * p
            for i, k, s in layings[1:]:
                word = laid_word(word, i, k, s)
            self.assertEqual(rim_word(again, begins(layings)), word)
            self.assertEqual(size_of(p, q, word)[1], len(layings))
            for t in takers(gluing):
                left = taken(gluing, t)
                self.assertTrue(is_disc(left) and is_of(left, p, q))
                self.assertEqual(size_of(p, q, rim_words(left)[0])[1], len(layings) - 1)

    def test_fillings(self):
        for p, q, gluing in DISCS:
            for side in rim_sides(gluing)[::4]:
                word = rim_word(gluing, side)
                told = fill(p, q, word)
                self.assertIsNone(judge_fill(p, q, word, told))
                self.assertIsNone(judge_fill(p, q, word, ("disc", gluing, side)))
                self.assertEqual((len(told[1][0]), len(inner_corners(told[1]))), size_of(p, q, word)[1:])
                codes = all_fills(p, q, word)
                self.assertIn(code(gluing, side), codes)
                self.assertIn(code(told[1], told[2]), codes)
                self.assertEqual(fills(p, q, word), len(codes))
                way, parts = way_of(p, q, gluing, side), parts_of(p, q, gluing, side)
                self.assertIn(way, ways(p, q, word))
                self.assertEqual([rim_word(*part) for part in parts], rests(p, q, word, way))
                self.assertEqual(put_first(p, q, word, way, parts), code(gluing, side))
                # However the rim is begun, as many discs fill it.
                for k in (1, len(word) // 2):
                    self.assertEqual(fills(p, q, turned_word(word, k)), len(codes))

    def test_fillings_are_forms(self):
        for p, q, n in ((4, 4, 4), (4, 5, 4), (3, 7, 5), (6, 3, 3), (5, 4, 3), (7, 3, 3)):
            forms = all_discs(p, q, n)
            self.assertEqual(counted(p, q, n)[0], len(forms))
            told = {}
            for gluing in forms:
                self.assertTrue(is_disc_form(p, q, gluing))
                # Sides from which the gluing looks the same are one filling.
                words = [rim_word(gluing, side) for side in rim_sides(gluing)]
                for word in set(words):
                    told[word] = told.get(word, 0) + words.count(word) // self.turns_home(gluing)
            for word in told:
                self.assertEqual(fills(p, q, word), told[word])
                self.assertEqual(sorted({form(each) for each in all_fills(p, q, word)}),
                                 [gluing for gluing in forms if word in [rim_word(gluing,
                                                                                  side) for side in rim_sides(gluing)]])

    def turns_home(self, gluing):
        """Return in how many ways a gluing is put to itself."""
        return len(starts(gluing))

    def test_odd_fillings_of_even_tiles(self):
        for p, q, gluing in DISCS:
            tiles = len(gluing[0])
            if q > 6 or p > 8 or tiles > 5:
                continue
            for side in rim_sides(gluing)[::3]:
                word = rim_word(gluing, side)
                self.assertIn((tiles,), due_counts(q, (p,), word, tiles))
                told = fill_with(q, (p,), word, tiles)
                self.assertEqual(told[0], "disc")
                self.assertIsNone(judge_fill(p, q, word, told))
                self.assertIsNone(judge_fill_with(q, (p,), word, tiles, ("disc", gluing, side)))

    def test_rings(self):
        for p, q, gluing in DISCS:
            if (p - 2) * (q - 2) < 4:
                continue
            side = rim_sides(gluing)[0]
            try:
                tiles, word = ring(p, q, rim_word(gluing, side))
            except ValueError:
                continue
            whole = ringed(gluing, p, q, side)
            self.assertTrue(is_disc(whole) and is_of(whole, p, q))
            self.assertEqual(len(whole[0]), len(gluing[0]) + len(tiles))
            self.assertEqual(least_turn(rim_words(whole)[0]), least_turn(word))
            self.assertEqual(size_of(p, q, word)[1], len(whole[0]))
            # All corners of the rim are inner ones now, so the dual holds a tile for each.
            self.assertEqual(len(dual(whole)[0]), len(inner_corners(whole)))
            self.assertTrue(is_of(dual(whole), q, p))

    def test_duals(self):
        for p, q, gluing in DISCS:
            found = dual(gluing)
            inner = inner_corners(gluing)
            if not inner:
                self.assertIsNone(found)
                continue
            self.assertTrue(is_of(found, q, p))
            self.assertEqual(found[0], (q,) * len(inner))
            for other in turns(gluing):
                self.assertEqual(sorted([form(each) for each in self.cut(dual(other))]),
                                 sorted([form(each) for each in self.cut(found)]))

    def cut(self, gluing):
        """Return the gluings of the pieces of a gluing."""
        found = []
        for lot in pieces(gluing):
            numbers = {t: k for k, t in enumerate(lot)}
            ties = [tuple([(numbers[t], i) for t, i in tie]) for tie in gluing[1] if tie[0][0] in numbers]
            found.append((tuple([gluing[0][t] for t in lot]), tuple(ties)))
        return found

    def test_texts(self):
        console, house = Console(), House()
        for p, q, gluing in DISCS[::5]:
            self.assertTrue(exactly_equal(read_gluing(gluing_text(gluing)), gluing))
            word = rim_word(gluing, rim_sides(gluing)[0])
            self.assertTrue(exactly_equal(read_word(word_text(word)), word))
            deed = ("gluing", "a", gluing)
            self.assertTrue(exactly_equal(read_deed(deed_text(deed)), deed))
            self.assertEqual(console.say(deed_text(deed)), str(house.do(deed)))
            self.assertEqual(console.say("show a"), thing_text(("gluing", gluing)))
            t, i = rim_sides(gluing)[0]
            self.assertEqual(console.say(f"rim a {t}.{i}"), word_text(word))
            self.assertEqual(console.say("counts a"), word_text(counts(gluing)))
            self.assertEqual(console.say(f"kind {p} {q} a"), "yes")
            self.assertEqual(console.say("layings a"), str(len(layings_of(gluing))))
            self.assertEqual(house.ask(("layings", "a")), layings_of(gluing))
            if len(word) <= 16:
                console.say(f"rim w a {t}.{i}")
                house.do(("rim", "w", "a", (t, i)))
                self.assertEqual(console.say(f"size {p} {q} w"), str(len(gluing[0])))
                self.assertEqual(house.ask(("size", p, q, "w")), size_of(p, q, word))
                self.assertEqual(console.say(f"fill {p} {q} w"), "disc")


class Coils(unittest.TestCase):
    def test_coils_and_rings(self):
        for p, q in ((3, 6), (4, 4), (6, 3), (7, 3), (3, 7), (4, 5), (5, 4)):
            for n in (1, 5, 12, 40):
                gluing = coil(p, q, n)
                word, = rim_words(gluing)
                length, total, inner = coil_rim(p, q, n)
                self.assertEqual((len(word), sum(word)), (length, total))
                self.assertEqual(size_of(p, q, word), ("size", n, inner))
                self.assertIsNone(judge_layings(gluing, layings_of(gluing)))
            whole = within_ring(p, q, 1)
            self.assertEqual(coil(p, q, len(whole[0])), whole)


class Balls(unittest.TestCase):
    def test_balls(self):
        for p, q in BALLS:
            ball = ball_of(p, q)
            self.assertTrue(is_ball(ball) and is_of(ball, p, q))
            self.assertEqual((worth(ball), handles(ball), tiles_sum(ball, q)), (2, 0, 4 * q))
            self.assertEqual(not_disc(ball), ("rims", []))
            self.assertEqual(form(dual(ball)), ball_of(q, p))
            for other in turns(ball) + [mirrored(ball)]:
                self.assertEqual(form(other), ball)

    def test_what_is_left_of_a_ball(self):
        for p, q in BALLS:
            ball = ball_of(p, q)
            # Round tile 0, from each side on: the rest is what fills the rim of all the others.
            for k in range(p):
                ring_of_sides = tuple([(0, (k + i) % p) for i in range(p)])
                self.assertIsNone(ring_fault(ball, ring_of_sides))
                (left, side), (right, other_side) = halves(ball, ring_of_sides)
                self.assertEqual((left, side), (((p,), ()), (0, k)))
                self.assertEqual(rim_word(right, other_side), (q - 1,) * p)
                self.assertIsNone(judge_fill(p, q, (q - 1,) * p, ("disc", right, other_side)))
                self.assertEqual(form(glued(right, other_side, left, side, q)), ball)
                self.assertEqual(mate_of(ball, ring_of_sides[0])[1], other_side[1])
                self.assertEqual(len(rim_of(right, other_side)), p)


if __name__ == "__main__":
    unittest.main()

"""Codes and forms of gluings, and how like ones are put to one another."""

import itertools
import unittest

from tests.helpers import (APART, BALL, BAND, BLOCK, FAMILY, FOLDED, NAMED, ONE, STRANGE, TETRAHEDRON, TORUS, TUBE, TWO,
                           changes, discs_of, exactly_equal, gluings_of)
from whatrims.forms import (code, form, is_form, is_like, is_mirrorlike, judge_likening, likening, mirror_form, starts)
from whatrims.gluings import beside, is_gluing, mate_of, mirrored, named, sides_of
from whatrims.laying import built
from whatrims.pieces import pieces

PIECES = [gluing for gluing in FAMILY if len(pieces(gluing)) == 1]
DISCS = discs_of(4, 4, 4)[::3] + discs_of(3, 7, 4)[::2]
MIXED = ((4, 3, 5, 3), (((0, 0), (1, 1)), ((0, 2), (2, 4)), ((2, 1), (3, 0))))
ROW = ((4, 4, 4), (((0, 1), (1, 3)), ((1, 1), (2, 3))))
BENT = ((4, 4, 4), (((0, 1), (1, 3)), ((1, 0), (2, 2))))


def slow_code(gluing, side):
    """Name a gluing from a side on, by the words of the point, and write down its ties."""
    sizes = gluing[0]
    new = {side[0]: (0, side[1])}
    old = [side[0]]
    for number in range(len(sizes)):
        t = old[number]
        for i in range(sizes[t]):
            mate = mate_of(gluing, (t, (new[t][1] + i) % sizes[t]))
            if mate and mate[0] not in new:
                new[mate[0]] = (len(old), mate[1])
                old.append(mate[0])
    ties = []
    for tie in gluing[1]:
        ties.append(tuple(sorted((new[t][0], (i - new[t][1]) % sizes[t]) for t, i in tie)))
    return (tuple(sizes[t] for t in old), tuple(sorted(ties)))


def renamed(gluing, k):
    """Return the gluing with other numbers of its tiles and their sides, for each k other ones."""
    many = len(gluing[0])
    order = list(itertools.islice(itertools.permutations(range(many)), k * 7 % 24, None))
    order = order[0] if order else tuple(range(many))[::-1]
    return named(gluing, tuple(order), tuple((k + 5 * t) % s for t, s in enumerate(gluing[0])))


def slow_likenings(one, other):
    """Return all right answers of "like", by trying all ways to put the tiles and sides."""
    found = []
    for tiles in itertools.permutations(range(len(other[0]))):
        if len(one[0]) == len(other[0]) and all(other[0][u] == s for s, u in zip(one[0], tiles)):
            for firsts in itertools.product(*[range(s) for s in one[0]]):
                ties = []
                for tie in one[1]:
                    ties.append(tuple(sorted((tiles[t], (firsts[t] + i) % one[0][t]) for t, i in tie)))
                if tuple(sorted(ties)) == other[1]:
                    found.append(("like", tiles, firsts))
    return found


class Codes(unittest.TestCase):
    def test_by_their_words(self):
        for gluing in PIECES[::2] + DISCS + [MIXED, TETRAHEDRON]:
            for side in sides_of(gluing):
                self.assertTrue(exactly_equal(code(gluing, side), slow_code(gluing, side)), (gluing, side))

    def test_known_ones(self):
        self.assertEqual(code(TWO, (0, 1)), ((4, 4), (((0, 0), (1, 0)),)))
        self.assertEqual(code(TWO, (0, 3)), ((4, 4), (((0, 2), (1, 0)),)))
        self.assertEqual(code(MIXED, (2, 4)), ((5, 4, 3, 3), (((0, 0), (1, 0)), ((0, 2), (2, 0)), ((1, 2), (3, 0)))))
        self.assertEqual(code(BAND, (0, 1)), ((4, 4), (((0, 0), (1, 0)), ((0, 2), (1, 2)))))

    def test_codes_are_like_the_gluing(self):
        for gluing in [BAND, BLOCK, MIXED, FOLDED, TORUS, BALL]:
            for side in sides_of(gluing):
                made = code(gluing, side)
                self.assertTrue(is_gluing(made))
                self.assertEqual(form(made), form(gluing))
                self.assertEqual(code(made, (0, 0)), made)


class Forms(unittest.TestCase):
    def test_least_of_all_codes_and_where_it_comes_of(self):
        for gluing in PIECES + DISCS + [MIXED, TETRAHEDRON, ROW, BENT]:
            codes = [(slow_code(gluing, side), side) for side in sides_of(gluing)]
            least = min(told for told, _ in codes)
            self.assertTrue(exactly_equal(form(gluing), least))
            self.assertTrue(exactly_equal(starts(gluing), [side for told, side in codes if told == least]))

    def test_unlike_sizes_decide_first(self):
        for sizes in ((3, 4, 5), (5, 3, 3), (3, 5, 3)):
            for gluing in gluings_of(sizes)[::997]:
                if len(pieces(gluing)) == 1:
                    codes = [slow_code(gluing, side) for side in sides_of(gluing)]
                    self.assertEqual(form(gluing), min(codes))
                    self.assertEqual(len(starts(gluing)), codes.count(min(codes)))

    def test_sizes_that_part_late(self):
        # Discs of six tiles of three and four sides, laid in many ways: their codes part at each of their tiles.
        parted = set()
        for n in range(120):
            layings = ((3 + n % 2,),) + tuple(((n * k + n // 7) % 3, 1, 3 + (n >> k) % 2) for k in range(1, 6))
            gluing = built(layings)
            codes = sorted({slow_code(gluing, side) for side in sides_of(gluing)})
            self.assertEqual(form(gluing), codes[0])
            self.assertEqual(starts(gluing), [side for side in sides_of(gluing) if slow_code(gluing, side) == codes[0]])
            for one, other in zip(codes, codes[1:]):
                parted.add([k for k in range(7) if one[0][:k] == other[0][:k]][-1])
        self.assertTrue(parted >= {0, 1, 2, 3, 4, 6})

    def test_starts_of_known_ones(self):
        for gluing, due in ((ONE, [(0, 0), (0, 1), (0, 2), (0, 3)]), (TWO, [(0, 1), (1, 3)]), (MIXED, [(1, 1)]),
                            (TETRAHEDRON, sides_of(TETRAHEDRON)), (TORUS, sides_of(TORUS)), (FOLDED, [(0, 0)]),
                            (TUBE, [(0, 0), (0, 2)])):
            self.assertTrue(exactly_equal(starts(gluing), due), gluing)
        self.assertEqual([len(starts(gluing)) for gluing in (BLOCK, BAND, ROW, BENT)], [4, 4, 2, 1])

    def test_one_form_exactly_for_like_ones(self):
        some = PIECES[::12] + [BAND, TUBE, TORUS]
        for one in some:
            for other in some:
                self.assertEqual(form(one) == form(other), bool(slow_likenings(one, other)), (one, other))

    def test_named_anew(self):
        for gluing in NAMED + DISCS + [MIXED]:
            if len(pieces(gluing)) == 1:
                for k in range(3):
                    self.assertEqual(form(renamed(gluing, k)), form(gluing))


class IsForm(unittest.TestCase):
    def test_codes_that_are_least_and_that_are_not(self):
        for gluing in PIECES[::5] + DISCS + [MIXED]:
            for side in sides_of(gluing):
                self.assertIs(is_form(code(gluing, side)), side in starts(gluing))
        self.assertIs(is_form(MIXED), False)

    def test_two_pieces(self):
        for gluing in (APART, beside(ONE, ONE), beside(TORUS, TORUS), beside(form(TWO), ONE)):
            self.assertIs(is_form(gluing), False)

    def test_no_gluings(self):
        for value in STRANGE + [((4,), []), [(4,), ()], ((4, 4), (((0, 0), (True, 0)),)), ((2,), ()), ((25,), ()),
                                ((4, 4), (((0, False), (1, 0)),)), ((4, 4), (((1, 0), (0, 0)),))]:
            self.assertIs(is_form(value), False)

    def test_parts_changed(self):
        for gluing in (form(TWO), form(BAND), form(FOLDED)):
            for value in changes(gluing, STRANGE + [2, 3, 5, (0, 0), (1, 0), (0, 1)]):
                due = is_gluing(value) and len(pieces(value)) == 1 and form(value) == value
                self.assertIs(is_form(value), due, value)


class Likening(unittest.TestCase):
    def test_like_ones(self):
        for gluing in PIECES[::6] + DISCS + [MIXED, TETRAHEDRON, BAND]:
            for k in range(2):
                other = renamed(gluing, k)
                found = likening(gluing, other)
                self.assertEqual(found[0], "like")
                self.assertIs(is_like(gluing, other), True)
                self.assertIsNone(judge_likening(gluing, other, found))
                # Named as the answer tells, one is other, side for side.
                backs = tuple((s - k) % s for s, k in zip(gluing[0], found[2]))
                self.assertEqual(named(gluing, found[1], backs), other)

    def test_each_reason_ahead_of_the_next_one(self):
        # Unlike sizes, rims and forms; unlike rims and forms; unlike forms alone.
        for one, other, due in ((ONE, TWO, ("sizes", (4,), (4, 4))), (MIXED, TORUS, ("sizes", (3, 3, 4, 5), (4,))),
                                (((5, 3), (((0, 0), (1, 0)),)), ((3, 6), (((0, 0), (1, 0)),)), ("sizes", (3, 5), (3, 6))),
                                (TWO, BAND, ("rims", (6,), (2, 2))), (TORUS, ONE, ("rims", (), (4,))),
                                (TUBE, TORUS, ("rims", (1, 1), ())), (ROW, BENT, ("forms", form(ROW), form(BENT))),
                                (BENT, ROW, ("forms", form(BENT), form(ROW)))):
            self.assertTrue(exactly_equal(likening(one, other), due))
            self.assertIs(is_like(one, other), False)

    def test_rims_of_several_lengths_ascend(self):
        # A ring of five squares, one more outside: rims of 5 and of 7.
        ring = ((4,) * 6, tuple(sorted([((t, 1), (t + 1, 3)) for t in range(4)] + [((0, 3), (4, 1)), ((2, 0), (5, 2))])))
        bar = ((4,) * 6, tuple(((t, 1), (t + 1, 3)) for t in range(5)))
        self.assertEqual(likening(ring, bar), ("rims", (5, 7), (14,)))

    def test_by_trying_all(self):
        some = PIECES[::15] + [BAND, TWO]
        for one in some:
            for other in some:
                self.assertEqual(likening(one, other)[0] == "like", bool(slow_likenings(one, other)))


class JudgeLikening(unittest.TestCase):
    def test_all_right_answers(self):
        for one, other in ((TWO, form(TWO)), (BAND, renamed(BAND, 1)), (ONE, ONE), (TORUS, TORUS), (FOLDED, FOLDED),
                           (TUBE, TUBE), (BALL, renamed(BALL, 2)), (MIXED, renamed(MIXED, 1))):
            right = slow_likenings(one, other)
            self.assertIn(likening(one, other), right)
            for value in right:
                self.assertIsNone(judge_likening(one, other, value))
            self.assertEqual(len(right), len(starts(one)))

    def test_all_wrong_ways_to_put(self):
        for one, other in ((TWO, form(TWO)), (BAND, renamed(BAND, 1)), (TUBE, TUBE)):
            for tiles in itertools.permutations(range(len(one[0]))):
                for firsts in itertools.product(*[range(s) for s in one[0]]):
                    value = ("like", tiles, firsts)
                    put = {(t, i): (tiles[t], (firsts[t] + i) % one[0][t]) for t, i in sides_of(one)}
                    bad = [side for side in sides_of(one) if mate_of(one, side)
                           and mate_of(other, put[side]) != put[mate_of(one, side)]]
                    self.assertTrue(exactly_equal(judge_likening(one, other, value), ("tie", bad[0]) if bad else None))

    def test_each_fault_in_its_order(self):
        sizes, told = ("sizes", (4,), (4, 4)), ("rims", (6,), (2, 2))
        forms = ("forms", form(ROW), form(BENT))
        for one, other, value, due in (
                (ONE, TWO, sizes, None), (TWO, BAND, told, None), (ROW, BENT, forms, None),
                (ONE, TWO, ("rims", (4,), (6,)), ("word", "sizes")), (ONE, TWO, ("forms", 1, None), ("word", "sizes")),
                (TWO, TWO, sizes, ("word", "like")), (TWO, BAND, ("like", (0, 1), (0, 0)), ("word", "rims")),
                (ROW, BENT, ("like", (0, 1, 2), (0, 0, 0)), ("word", "forms")),
                (ROW, BENT, ("like", (0, 1, 1), (0, 0, 0)), ("form",)),
                (ONE, TWO, ("sizes", (4, 4), (4,)), ("told", sizes)), (ONE, TWO, ("sizes", [4], (4, 4)), ("told", sizes)),
                (ONE, TWO, ("sizes", (4,), [4, 4]), ("told", sizes)), (ONE, TWO, ("sizes", None, {}), ("told", sizes)),
                (TWO, BAND, ("rims", (2, 2), (6,)), ("told", told)), (TWO, BAND, ("rims", (6,), (2, 2, 2)), ("told", told)),
                (ROW, BENT, ("forms", form(BENT), form(ROW)), ("told", forms)), (ROW, BENT, ("forms", ROW, BENT), ("told", forms)),
                (ONE, TWO, ("like", (0, 1), (0,)), ("form",)), (TWO, ONE, ("like", (0,), (0, 0)), ("form",)),
                (ONE, TWO, ("like", (0,), (0,)), ("form",)), (TWO, ONE, ("like", (0, 0), (0, 0)), ("form",)),
                (TWO, TWO, ("like", (0, 1), (0, 4)), ("form",)), (TWO, TWO, ("like", (0, 1), (-1, 0)), ("form",)),
                (TWO, TWO, ("like", (0, 1)), ("form",)), (TWO, TWO, ("like", (0, 1), (0, 0), ()), ("form",)),
                (TWO, TWO, ("like", (0, 2), (0, 0)), ("form",)), (TWO, TWO, ["like", (0, 1), (0, 0)], ("form",)),
                (TWO, TWO, ("like", [0, 1], (0, 0)), ("form",)), (TWO, TWO, ("like", (0, 1), [0, 0]), ("form",)),
                (TWO, TWO, ("like", (False, 1), (0, 0)), ("form",)), (TWO, TWO, ("like", (0, True), (0, 0)), ("form",)),
                (TWO, TWO, ("like", (0, 1), (False, 0)), ("form",)), (TWO, TWO, ("like", (0, 1), (0, 0)), None),
                (TWO, TWO, ("Like", (0, 1), (0, 0)), ("form",)), (ONE, TWO, ("sizes", (4,)), ("form",)),
                (ONE, TWO, ("sizes", (4,), (4, 4), ()), ("form",)), (ONE, TWO, ["sizes", (4,), (4, 4)], ("form",))):
            self.assertTrue(exactly_equal(judge_likening(one, other, value), due), (one, other, value))

    def test_tiles_put_to_tiles_of_other_sizes(self):
        # Like or not: a tile of four sides put to one of three, its first side a side's number of both.
        one = ((4, 3), (((0, 0), (1, 0)),))
        self.assertEqual(judge_likening(one, one, ("like", (1, 0), (0, 0))), ("form",))
        self.assertEqual(judge_likening(one, one, ("like", (0, 1), (0, 0))), None)
        other = ((4, 3), (((0, 0), (0, 1)), ((0, 2), (1, 0))))
        self.assertEqual(judge_likening(one, other, ("like", (1, 0), (0, 0))), ("form",))
        self.assertEqual(judge_likening(one, other, ("like", (0, 1), (0, 0))), ("word", "rims"))
        self.assertEqual(judge_likening(one, other, ("like", (0, 1), (0, 3))), ("form",))
        self.assertEqual(judge_likening(((4, 4), one[1]), one, ("like", (0, 1), (0, 0))), ("form",))

    def test_true_and_false_in_told_answers(self):
        one, other = ((4, 4), (((0, 0), (0, 1)), ((0, 2), (1, 0)))), ((4, 4), (((0, 0), (0, 2)), ((0, 1), (1, 0))))
        right = likening(one, other)
        self.assertEqual(right[0], "rims")
        self.assertIsNone(judge_likening(one, other, right))
        wrong = ("rims", tuple(part == 1 or part for part in right[1]), tuple(part == 1 or part for part in right[2]))
        self.assertEqual(wrong, right)
        self.assertEqual(judge_likening(one, other, wrong), ("told", right))
        for value in changes(likening(ROW, BENT)[1], STRANGE):
            due = None if exactly_equal(value, form(ROW)) else ("told", likening(ROW, BENT))
            self.assertTrue(exactly_equal(judge_likening(ROW, BENT, ("forms", value, form(BENT))), due))

    def test_any_value(self):
        for value in STRANGE + [("like",), ("like", 0, 0), ("like", (0, 1), {0: 0, 1: 0}), ((), (), ())]:
            self.assertEqual(judge_likening(TWO, TWO, value), ("form",))
        for one, other in ((TWO, form(TWO)), (BAND, BAND)):
            right = slow_likenings(one, other)
            for value in changes(right[-1], STRANGE + [2, 3, "sizes", "rims", "forms"]):
                told = judge_likening(one, other, value)
                self.assertEqual(told is None, any(exactly_equal(value, each) for each in right), value)
                self.assertIn(told and told[0], (None, "form", "word", "tie"))


class Mirrored(unittest.TestCase):
    def test_known_ones(self):
        ell = ((4, 4, 4, 4), (((0, 1), (1, 3)), ((1, 1), (2, 3)), ((2, 0), (3, 2))))
        tee = ((4, 4, 4, 4), (((0, 1), (1, 3)), ((1, 1), (2, 3)), ((1, 0), (3, 2))))
        for gluing, due in ((ONE, True), (TWO, True), (ROW, True), (BENT, True), (BLOCK, True), (ell, False),
                            (tee, True), (BAND, True), (TORUS, True), (MIXED, False), (TETRAHEDRON, True)):
            self.assertIs(is_mirrorlike(gluing), due, gluing)
        self.assertNotEqual(form(ell), form(mirrored(ell)))
        self.assertEqual(mirror_form(ell), mirror_form(mirrored(ell)))

    def test_the_lesser_form(self):
        met = set()
        for gluing in PIECES + DISCS + [MIXED]:
            both = [form(gluing), form(mirrored(gluing))]
            self.assertTrue(exactly_equal(mirror_form(gluing), min(both)))
            self.assertIs(is_mirrorlike(gluing), both[0] == both[1])
            met.add((both[0] < both[1], both[0] > both[1]))
        self.assertEqual(len(met), 3)


class Large(unittest.TestCase):
    def test_sixty_tiles(self):
        bar = ((24,) * 60, tuple(((t, 1), (t + 1, 13)) for t in range(59)))
        other = named(bar, tuple((7 * t + 3) % 60 for t in range(60)), tuple(t % 24 for t in range(60)))
        self.assertEqual(form(bar), form(other))
        self.assertEqual(starts(bar), [(29, 1), (30, 13)])
        self.assertIsNone(judge_likening(bar, other, likening(bar, other)))
        self.assertTrue(is_form(form(other)))


if __name__ == "__main__":
    unittest.main()

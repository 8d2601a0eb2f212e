"""All discs of a kind, by their forms."""

import unittest

from tests.helpers import BALL, BAND, BLOCK, ONE, STRANGE, TORUS, TWO, changes, discs_of, exactly_equal
from whatrims.corners import corners, is_inner
from whatrims.discs import all_discs, counted, grown, is_disc_form, most_turned
from whatrims.errors import TooMany
from whatrims.forms import code, form, is_form, mirror_form, starts
from whatrims.gluings import beside, is_gluing, rim_sides, sides_of
from whatrims.laying import laid
from whatrims.pieces import is_disc, is_of, pieces
from whatrims.rims import rim_of
from whatrims.taking import taken, takers

KINDS = ((3, 5), (3, 6), (3, 7), (4, 4), (4, 5), (5, 3), (5, 4), (6, 3), (7, 3), (7, 7))

# How many discs of 1, 2, 3 .. tiles there are, told apart by mirroring or not: triangles on the flat floor, squares
# and fusenes are known from elsewhere (no disc of these few tiles has a hole; fusenes may lie over themselves).
KNOWN = (((3, 6), [1, 1, 1, 4, 6, 19, 43], [1, 1, 1, 3, 4, 12, 24]),
         ((4, 4), [1, 1, 2, 7, 18, 60, 196], [1, 1, 2, 5, 12, 35, 108]),
         ((6, 3), [1, 1, 3, 10, 33, 147, 632], [1, 1, 3, 7, 22, 82, 339]))


def slow_grown(p, q, forms):
    """Lay a tile in all ways, and keep what is a disc of the kind."""
    found = set()
    for disc in forms:
        for side in rim_sides(disc):
            for k in range(1, min(p, len(rim_of(disc, side)))):
                made = laid(disc, side, k, p)
                if is_of(made, p, q):
                    found.add(min(code(made, each) for each in sides_of(made)))
    return sorted(found)


def slow_is_disc_form(p, q, value):
    """Say is_disc_form in the words of the point."""
    if not is_gluing(value) or len(pieces(value)) != 1:
        return False
    return is_disc(value) and is_of(value, p, q) and min(code(value, side) for side in sides_of(value)) == value


class Grown(unittest.TestCase):
    def test_by_laying_in_all_ways(self):
        for p, q in KINDS:
            forms = [form(((p,), ()))]
            for _ in range(3):
                due = slow_grown(p, q, forms)
                self.assertTrue(exactly_equal(grown(p, q, forms), due))
                forms = due[:12]

    def test_some_forms_alone(self):
        row, bent = all_discs(4, 4, 3)
        self.assertEqual(sorted(set(grown(4, 4, [row]) + grown(4, 4, [bent]))), all_discs(4, 4, 4))
        self.assertEqual(grown(4, 4, [row, bent, row]), all_discs(4, 4, 4))
        self.assertTrue(exactly_equal(grown(4, 4, []), []))

    def test_a_tuple_of_forms(self):
        forms = all_discs(5, 3, 3)
        self.assertTrue(exactly_equal(grown(5, 3, tuple(forms)), grown(5, 3, forms)))

    def test_more_than_two_thousand(self):
        forms = all_discs(7, 3, 6)
        self.assertGreater(len(grown(7, 3, forms)), 2000)

    def test_nothing_to_lay_on(self):
        # All tiles but one of the ball of twelve pentagons: the rim has letters 2 alone.
        forms = [form(((5,), ()))]
        for _ in range(10):
            forms = grown(5, 3, forms)
        self.assertEqual([len(disc[0]) for disc in forms if len(rim_sides(disc)) == 5], [11])
        self.assertEqual(grown(5, 3, [disc for disc in forms if len(rim_sides(disc)) == 5]), [])


class AllDiscs(unittest.TestCase):
    def test_known_numbers(self):
        for (p, q), due, due_mirrored in KNOWN:
            told = [counted(p, q, n) for n in range(1, 8)]
            self.assertEqual([forms for forms, _, _ in told], due)
            self.assertEqual([mirrored for _, mirrored, _ in told], due_mirrored)

    def test_each_form_once_and_of_the_kind(self):
        for p, q in KINDS:
            for n in range(1, 6):
                forms = all_discs(p, q, n)
                self.assertEqual(forms, sorted(set(forms)))
                for disc in forms[::7]:
                    self.assertEqual(len(disc[0]), n)
                    self.assertTrue(is_disc(disc) and is_of(disc, p, q) and is_form(disc))
                    self.assertTrue(is_disc_form(p, q, disc))

    def test_all_come_of_laying_in_all_ways(self):
        for p, q, n in ((3, 5, 6), (4, 4, 5), (5, 3, 4), (6, 3, 4), (3, 7, 6)):
            due = sorted({form(disc) for disc in discs_of(p, q, n) if len(disc[0]) == n})
            self.assertTrue(exactly_equal(all_discs(p, q, n), due))

    def test_each_comes_of_one_with_a_tile_less(self):
        for p, q, n in ((4, 4, 6), (6, 3, 5), (3, 7, 7)):
            fewer = all_discs(p, q, n - 1)
            for disc in all_discs(p, q, n):
                self.assertTrue(all(form(taken(disc, t)) in fewer for t in takers(disc)))

    def test_one_tile(self):
        for p in range(3, 8):
            self.assertTrue(exactly_equal(all_discs(p, 5, 1), [((p,), ())]))
            self.assertTrue(exactly_equal(counted(p, 5, 1), (1, 1, (1,))))

    def test_too_many(self):
        for p, q, n, calls in ((7, 3, 7, (all_discs, counted, most_turned)), (5, 5, 7, (all_discs,)),
                               (6, 4, 7, (counted,)), (7, 7, 7, (most_turned,)), (5, 7, 9, (all_discs,))):
            for call in calls:
                with self.assertRaises(TooMany):
                    call(p, q, n)
        for p, q, n, due in ((7, 7, 6, 1989), (5, 4, 7, 1447)):
            self.assertEqual(len(all_discs(p, q, n)), due)


class Counted(unittest.TestCase):
    def test_form_by_form(self):
        for p, q in KINDS:
            for n in (2, 4):
                forms = all_discs(p, q, n)
                inner = [sum(is_inner(disc, corner) for corner in corners(disc)) for disc in forms]
                told = counted(p, q, n)
                self.assertEqual(told[0], len(forms))
                self.assertEqual(told[1], len({mirror_form(disc) for disc in forms}))
                self.assertEqual(told[2], tuple(inner.count(k) for k in range(max(inner) + 1)))
                self.assertNotEqual(told[2][-1], 0)
                self.assertIs(type(told), tuple)
                self.assertIs(type(told[2]), tuple)


class IsDiscForm(unittest.TestCase):
    def test_right_kinds(self):
        for p, q in ((3, 6), (3, 7), (4, 4), (4, 5), (6, 3)):
            for disc in (form(TWO), form(BLOCK), ((3,), ()), all_discs(3, 6, 6)[-1], all_discs(6, 3, 3)[0]):
                self.assertIs(is_disc_form(p, q, disc), disc[0][0] == p and is_of(disc, p, q))
        self.assertIs(is_disc_form(4, 4, form(BLOCK)), True)
        self.assertIs(is_disc_form(4, 5, form(BLOCK)), False)
        self.assertIs(is_disc_form(4, 3, form(BLOCK)), False)

    def test_no_forms_and_no_discs(self):
        for value in STRANGE + [BLOCK, TWO, form(BAND), form(TORUS), form(BALL), beside(ONE, ONE), [form(TWO)]]:
            self.assertIs(is_disc_form(4, 4, value), False)

    def test_parts_changed(self):
        for value in changes(form(TWO), STRANGE + [2, 3, 5, (0, 0), (1, 0), (0, 1)]) + changes(form(BAND), [1, 2, 3]):
            self.assertIs(is_disc_form(4, 4, value), slow_is_disc_form(4, 4, value), value)


class MostTurned(unittest.TestCase):
    def test_those_with_the_most_starts(self):
        for p, q in KINDS:
            for n in range(1, 6):
                forms = all_discs(p, q, n)
                most = max(len(starts(disc)) for disc in forms)
                due = [disc for disc in forms if len(starts(disc)) == most]
                self.assertTrue(exactly_equal(most_turned(p, q, n), due))

    def test_known_ones(self):
        self.assertEqual(most_turned(4, 4, 4), [form(BLOCK)])
        plus = ((4,) * 5, (((0, 0), (1, 0)), ((0, 1), (2, 0)), ((0, 2), (3, 0)), ((0, 3), (4, 0))))
        self.assertEqual(most_turned(4, 4, 5), [plus])
        self.assertEqual([len(starts(disc)) for disc in most_turned(6, 3, 7)], [6])


if __name__ == "__main__":
    unittest.main()

"""Gluings: which values are some, their sides, and what is made of them."""

import unittest

from tests.helpers import (APART, BAND, BLOCK, FAMILY, FOLDED, NAMED, ONE, STRANGE, TORUS, TWO, changes,
                           exactly_equal, gluings_of)
from whatrims.gluings import (beside, is_gluing, is_side, mate_of, mirrored, named, next_side, one_tile, part_of,
                              parted, rim_sides, side_before, sides_of, tied)

MIXED = ((4, 3), (((0, 1), (1, 2)),))


def slow_is_gluing(value):
    """Say in other words than the program whether a value is a gluing."""
    if type(value) is not tuple or len(value) != 2 or type(value[0]) is not tuple or type(value[1]) is not tuple:
        return False
    if not value[0] or any(type(s) is not int or s not in range(3, 25) for s in value[0]):
        return False
    seen = []
    for tie in value[1]:
        if type(tie) is not tuple or len(tie) != 2:
            return False
        for side in tie:
            if type(side) is not tuple or len(side) != 2 or [type(n) for n in side] != [int, int]:
                return False
            if side[0] not in range(len(value[0])) or side[1] not in range(value[0][side[0]]) or side in seen:
                return False
            seen.append(side)
    return all(a < b for a, b in value[1]) and all(a < b for a, b in zip(value[1], value[1][1:]))


class IsGluing(unittest.TestCase):
    def test_right_ones(self):
        for gluing in FAMILY:
            self.assertIs(is_gluing(gluing), True)

    def test_sizes(self):
        for size, due in ((2, False), (3, True), (24, True), (25, False), (0, False), (-3, False), (10 ** 39, False)):
            self.assertIs(is_gluing(((size,), ())), due)
            self.assertIs(is_gluing(((4, size, 4), ())), due)

    def test_strange_values(self):
        for value in STRANGE:
            self.assertIs(is_gluing(value), False)
            self.assertIs(is_gluing((value, ())), False)
            self.assertIs(is_gluing(((4,), value)), value == () and isinstance(value, tuple))

    def test_empty_tuples(self):
        for value in ((), ((), ()), ((),), ((4,),), ((4,), (), ()), ((4,), ((),)), ((4,), (((), ()),))):
            self.assertIs(is_gluing(value), False)

    def test_true_and_false_for_one_and_nought(self):
        gluing = ((3, 3), (((0, 0), (0, 1)), ((1, 0), (1, 1))))
        self.assertTrue(is_gluing(gluing))
        self.assertFalse(is_gluing(((3, 3), (((False, 0), (0, 1)), ((1, 0), (1, 1))))))
        self.assertFalse(is_gluing(((3, 3), (((0, False), (0, 1)), ((1, 0), (1, 1))))))
        self.assertFalse(is_gluing(((3, 3), (((0, 0), (False, 1)), ((1, 0), (1, 1))))))
        self.assertFalse(is_gluing(((3, 3), (((0, 0), (0, True)), ((1, 0), (1, 1))))))
        self.assertFalse(is_gluing(((3, 3), (((0, 0), (0, 1)), ((True, 0), (1, 1))))))
        self.assertFalse(is_gluing(((True, 3), ())))

    def test_lists_for_tuples(self):
        for value in ([(4, 3), ()], ([4, 3], ()), ((4, 3), []), ((4, 3), [((0, 1), (1, 2))]),
                      ((4, 3), ([(0, 1), (1, 2)],)), ((4, 3), (([0, 1], (1, 2)),)), ((4, 3), (((0, 1), [1, 2]),))):
            self.assertIs(is_gluing(value), False)

    def test_ties(self):
        def with_ties(*ties):
            return is_gluing(((4, 3), ties))
        self.assertTrue(with_ties(((0, 0), (0, 3)), ((0, 1), (1, 0)), ((0, 2), (1, 2))))
        self.assertFalse(with_ties(((1, 2), (0, 1))))
        self.assertFalse(with_ties(((0, 3), (0, 0))))
        self.assertFalse(with_ties(((0, 1), (0, 1))))
        self.assertFalse(with_ties(((0, 1), (1, 0)), ((0, 0), (1, 1))))
        self.assertFalse(with_ties(((0, 1), (1, 0)), ((0, 1), (1, 0))))
        self.assertFalse(with_ties(((0, 1), (1, 0)), ((0, 1), (1, 1))))
        self.assertFalse(with_ties(((0, 1), (1, 0)), ((0, 2), (1, 0))))
        self.assertFalse(with_ties(((0, 1), (0, 2)), ((0, 2), (1, 0))))
        for side in ((0, 4), (1, 3), (2, 0), (-1, 0), (0, -1), (1, -1), (10 ** 39, 0), (0, 10 ** 39)):
            self.assertFalse(with_ties(((0, 0), side)))
            self.assertFalse(with_ties((side, (1, 2))))

    def test_parts_changed(self):
        for gluing in (ONE, MIXED, TORUS, ((3, 3), (((0, 0), (0, 1)), ((1, 0), (1, 1)))), BAND):
            for value in changes(gluing, STRANGE + [2, 3, 24, 25, (0, 0), (0, 1), (1, 0)]):
                self.assertIs(is_gluing(value), slow_is_gluing(value), value)


class IsSide(unittest.TestCase):
    def test_right_and_wrong_ones(self):
        for t in range(-1, 4):
            for i in range(-1, 6):
                self.assertIs(is_side(MIXED, (t, i)), (t, i) in sides_of(MIXED))

    def test_any_values(self):
        for value in STRANGE + [[0, 1], (0, [1]), (0, "1"), ("0", 1), (0, 1, 2), (0,), (None, 0), ((0, 1),),
                                (True, 0), (0, True), (1, False), (False, 1), (True, True), (10 ** 39, 0)]:
            self.assertIs(is_side(MIXED, value), False)


class Sides(unittest.TestCase):
    def test_lists_ascending_and_whole(self):
        self.assertEqual(sides_of(MIXED), [(0, 0), (0, 1), (0, 2), (0, 3), (1, 0), (1, 1), (1, 2)])
        for gluing in FAMILY:
            due = [(t, i) for t, s in enumerate(gluing[0]) for i in range(s)]
            self.assertTrue(exactly_equal(sides_of(gluing), due))
            in_ties = [side for tie in gluing[1] for side in tie]
            self.assertTrue(exactly_equal(rim_sides(gluing), [side for side in due if side not in in_ties]))
        self.assertEqual(rim_sides(TORUS), [])

    def test_mates(self):
        for gluing in FAMILY:
            mates = {one: mate_of(gluing, one) for one in sides_of(gluing)}
            self.assertEqual([side for side in mates if mates[side] is None], rim_sides(gluing))
            for one, other in gluing[1]:
                self.assertEqual((mates[one], mates[other]), (other, one))

    def test_next_and_before(self):
        self.assertEqual([next_side(MIXED, (1, i)) for i in range(3)], [(1, 1), (1, 2), (1, 0)])
        self.assertEqual([side_before(MIXED, (0, i)) for i in range(4)], [(0, 3), (0, 0), (0, 1), (0, 2)])
        for gluing in NAMED:
            for side in sides_of(gluing):
                self.assertEqual(side_before(gluing, next_side(gluing, side)), side)
                self.assertEqual(next_side(gluing, side_before(gluing, side)), side)


class Making(unittest.TestCase):
    def test_one_tile(self):
        self.assertTrue(exactly_equal([one_tile(s) for s in (3, 24)], [((3,), ()), ((24,), ())]))

    def test_beside(self):
        self.assertEqual(beside(ONE, ONE), ((4, 4), ()))
        self.assertEqual(beside(FOLDED, MIXED), ((3, 4, 3), (((0, 0), (0, 1)), ((1, 1), (2, 2)))))
        for one in NAMED:
            for other in NAMED:
                both = beside(one, other)
                self.assertTrue(slow_is_gluing(both))
                many = len(one[0])
                self.assertEqual(part_of(both, list(range(many))), one)
                self.assertEqual(part_of(both, list(range(many, len(both[0])))), other)

    def test_tied(self):
        self.assertEqual(tied(((4, 3), ()), (0, 1), (1, 2)), MIXED)
        self.assertEqual(tied(((4, 3), ()), (1, 2), (0, 1)), MIXED)
        self.assertEqual(tied(((3,), ()), (0, 1), (0, 0)), FOLDED)
        self.assertEqual(tied(MIXED, (1, 0), (0, 0)), ((4, 3), (((0, 0), (1, 0)), ((0, 1), (1, 2)))))
        self.assertEqual(tied(MIXED, (1, 0), (0, 3)), ((4, 3), (((0, 1), (1, 2)), ((0, 3), (1, 0)))))
        self.assertEqual(tied(MIXED, (1, 0), (1, 1)), ((4, 3), (((0, 1), (1, 2)), ((1, 0), (1, 1)))))

    def test_parted_by_either_side_and_tied_again(self):
        for gluing in NAMED:
            for one, other in gluing[1]:
                less = parted(gluing, one)
                self.assertTrue(slow_is_gluing(less))
                self.assertEqual(len(less[1]), len(gluing[1]) - 1)
                self.assertEqual(parted(gluing, other), less)
                self.assertEqual(tied(less, one, other), gluing)
                self.assertEqual(tied(less, other, one), gluing)

    def test_part_of(self):
        three = ((3, 4, 5), (((0, 0), (1, 0)), ((0, 1), (2, 0)), ((1, 1), (2, 4)), ((2, 1), (2, 2))))
        self.assertEqual(part_of(three, [0, 1, 2]), three)
        self.assertEqual(part_of(three, [0, 1]), ((3, 4), (((0, 0), (1, 0)),)))
        self.assertEqual(part_of(three, [0, 2]), ((3, 5), (((0, 1), (1, 0)), ((1, 1), (1, 2)))))
        self.assertEqual(part_of(three, [1, 2]), ((4, 5), (((0, 1), (1, 4)), ((1, 1), (1, 2)))))
        self.assertEqual(part_of(three, [1]), ((4,), ()))
        self.assertEqual(part_of(three, [2]), ((5,), (((0, 1), (0, 2)),)))
        self.assertEqual(part_of(BLOCK, [0, 2]), ((4, 4), ()))

    def test_part_of_a_list_or_a_tuple(self):
        for tiles in ([0], [1], [0, 2], [0, 1, 2]):
            self.assertTrue(exactly_equal(part_of(APART, tiles), part_of(APART, tuple(tiles))))


class Naming(unittest.TestCase):
    def test_ties_written_anew(self):
        three = ((3, 4, 3), (((0, 0), (2, 1)), ((0, 1), (1, 0))))
        self.assertEqual(named(three, (0, 1, 2), (0, 0, 0)), three)
        self.assertEqual(named(three, (2, 1, 0), (0, 0, 0)), ((3, 4, 3), (((0, 1), (2, 0)), ((1, 0), (2, 1)))))
        self.assertEqual(named(three, (1, 2, 0), (2, 1, 1)), ((3, 3, 4), (((0, 0), (1, 1)), ((1, 2), (2, 3)))))
        self.assertEqual(named(FOLDED, (0,), (1,)), ((3,), (((0, 0), (0, 2)),)))

    def test_orders_and_first_sides_of_all_sorts(self):
        for gluing in gluings_of((3, 4))[::5]:
            for order in ((0, 1), (1, 0)):
                for firsts in [(a, b) for a in range(3) for b in range(4)]:
                    told = named(gluing, order, firsts)
                    self.assertTrue(slow_is_gluing(told))
                    self.assertEqual([told[0][n] for n in order], [3, 4])
                    for t, i in sides_of(gluing):
                        mate = mate_of(gluing, (t, i))
                        due = None if mate is None else self.new(gluing, order, firsts, mate)
                        self.assertEqual(mate_of(told, self.new(gluing, order, firsts, (t, i))), due)

    def new(self, gluing, order, firsts, side):
        """Return the new name of a side, found by going round from the first one."""
        t, i = side
        steps, at = 0, (t, firsts[t])
        while at != (t, i):
            steps, at = steps + 1, next_side(gluing, at)
        return (order[t], steps)

    def test_mirrored(self):
        self.assertEqual(mirrored(((3, 4), (((0, 0), (0, 1)), ((0, 2), (1, 0))))),
                         ((3, 4), (((0, 0), (1, 3)), ((0, 1), (0, 2)))))
        self.assertEqual(mirrored(TWO), ((4, 4), (((0, 2), (1, 0)),)))
        for gluing in FAMILY:
            other = mirrored(gluing)
            self.assertTrue(slow_is_gluing(other))
            self.assertEqual(mirrored(other), gluing)
            for t, i in sides_of(gluing):
                mate = mate_of(gluing, (t, i))
                due = mate if mate is None else (mate[0], gluing[0][mate[0]] - 1 - mate[1])
                self.assertEqual(mate_of(other, (t, gluing[0][t] - 1 - i)), due)


if __name__ == "__main__":
    unittest.main()

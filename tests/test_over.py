"""What lies over each side, corners, walks, what is near, and patches of floors."""

import unittest

from tests.helpers import STRANGE, changes, exactly_equal, rings_laid
from whatrims.corners import corner_of
from whatrims.errors import TooMany
from whatrims.gluings import is_gluing, mate_of, one_tile, part_of, rim_sides
from whatrims.over import (judge_walk, least_sides, least_walk, near, neighbours, over, patch, round_corner,
                           side_words, straight, walked, within_ring)
from whatrims.pieces import is_disc, is_of
from whatrims.places import inside_outside, is_place, kind_of_place
from whatrims.ringcounts import ring_size, within
from whatrims.rings import ringed

KINDS = [(p, q) for p in range(3, 13) for q in range(3, 13) if (p - 2) * (q - 2) >= 4]
SOME = ((3, 6), (3, 7), (3, 9), (4, 4), (4, 5), (5, 4), (5, 5), (6, 3), (7, 3), (8, 3), (6, 4), (4, 8))
FAR_OUT = ((3, 6), (4, 4), (6, 3), (7, 3), (3, 7), (4, 5), (5, 4), (12, 12), (3, 12), (12, 3))


def apart(p, q, place, n):
    """Return the dict from all places to which at most n sides lead to how many do, by neighbours."""
    found = {place: 0}
    layer = [place]
    for distance in range(1, n + 1):
        layer = sorted({other for one in layer for other in neighbours(p, q, one)} - set(found))
        for other in layer:
            found[other] = distance
    return found


class Over(unittest.TestCase):
    def test_as_rings_are_laid(self):
        for p, q in SOME:
            gluing, places = rings_laid(p, q, 300)
            mates = dict(gluing[1]) | {other: one for one, other in gluing[1]}
            for t, place in enumerate(places):
                for i in range(p):
                    found = over(p, q, place, i)
                    if (t, i) in mates:
                        u, j = mates[(t, i)]
                        self.assertTrue(exactly_equal(found, (places[u], j)), (p, q, place, i))
                    else:
                        self.assertEqual(found[0][0], places[-1][0] + 1)

    def test_two_rings_of_all_kinds(self):
        for p, q in KINDS:
            gluing, places = rings_laid(p, q, 0, 2 if (p - 2) * (q - 2) < 40 else 1)
            for t, place in list(enumerate(places))[::max(1, len(places) // 12)]:
                for i in range(p):
                    mate = mate_of(gluing, (t, i))
                    if mate is not None:
                        self.assertEqual(over(p, q, place, i), (places[mate[0]], mate[1]), (p, q, place, i))

    def test_twice_is_where_one_was(self):
        for p, q in KINDS:
            for k in (0, 1, 2, 3, 40):
                size = ring_size(p, q, k)
                for j in sorted({0, 1, 2, size // 3, size // 2, size - 2, size - 1}):
                    if 0 <= j < size:
                        for i in range(p):
                            other = over(p, q, (k, j), i)
                            self.assertTrue(is_place(p, q, other[0]))
                            self.assertTrue(exactly_equal(over(p, q, *other), ((k, j), i)), (p, q, k, j, i))

    def test_far_out(self):
        for p, q in FAR_OUT:
            for k in (400, 1000):
                sides = [((k, j), i) for j in (0, 1, 5, 2399) for i in range(p)]
                for place, i in sides[::max(1, len(sides) // 9)]:
                    other = over(p, q, place, i)
                    self.assertEqual(over(p, q, *other), (place, i))
                    self.assertLessEqual(abs(other[0][0] - k), 1)

    def test_known_ones(self):
        for p, q, place, i, due in ((3, 6, (1, 3), 1, ((2, 6), 0)), (3, 6, (1, 3), 2, ((1, 4), 1)),
                                    (3, 6, (1, 4), 0, ((0, 0), 1)), (3, 6, (1, 4), 1, ((1, 3), 2)),
                                    (3, 6, (1, 11), 2, ((1, 0), 1)), (7, 3, (1, 6), 5, ((2, 0), 1)),
                                    (7, 3, (1, 6), 4, ((2, 20), 0)), (7, 3, (2, 0), 0, ((1, 0), 2)),
                                    (7, 3, (2, 0), 1, ((1, 6), 5)), (4, 5, (1, 11), 3, ((1, 0), 1)),
                                    (4, 5, (1, 0), 1, ((1, 11), 3)), (4, 5, (0, 0), 3, ((1, 9), 0))):
            self.assertTrue(exactly_equal(over(p, q, place, i), due), (p, q, place, i))


class Sides(unittest.TestCase):
    def test_words_of_each_kind(self):
        for p, q in KINDS:
            self.assertTrue(exactly_equal(side_words(p, q, (0, 0)), ("out",) * p))
            for k in (1, 2):
                for j in range(min(40, ring_size(p, q, k))):
                    r, o = inside_outside(p, q, kind_of_place(p, q, (k, j)))
                    due = ("in",) * r + ("ahead",) + ("out",) * o + ("next",)
                    self.assertTrue(exactly_equal(side_words(p, q, (k, j)), due))

    def test_words_tell_where_sides_lead(self):
        for p, q in SOME:
            for k in (0, 1, 2, 3):
                size = ring_size(p, q, k)
                for j in list(range(min(size, 12))) + [size - 1]:
                    for i, word in enumerate(side_words(p, q, (k, j))):
                        place, _ = over(p, q, (k, j), i)
                        self.assertEqual(place[0] - k, {"in": -1, "ahead": 0, "out": 1, "next": 0}[word])
                        if word in ("ahead", "next"):
                            self.assertEqual(place[1], (j + (1 if word == "next" else -1)) % size)

    def test_neighbours(self):
        for p, q in SOME:
            for place in ((0, 0), (1, 0), (1, 3), (2, 0), (2, 5), (3, 7), (40, 11)):
                due = [over(p, q, place, i)[0] for i in range(p)]
                self.assertTrue(exactly_equal(neighbours(p, q, place), due))


class Corners(unittest.TestCase):
    def test_all_shares(self):
        for p, q in KINDS:
            for place in ((0, 0), (1, 0), (1, 1), (2, 3), (3, 0), (40, 9)):
                for i in range(p) if p < 6 else (0, 1, p // 2, p - 1):
                    found = round_corner(p, q, place, i)
                    self.assertEqual(found[0], (place, i))
                    self.assertEqual(len(set(found)), q)
                    for share, after in zip(found, found[1:] + found[:1]):
                        other, j = over(p, q, *share)
                        self.assertEqual(after, (other, (j + 1) % p))
                    self.assertIs(type(found), list)

    def test_as_rings_are_laid(self):
        for p, q in SOME:
            gluing, places = rings_laid(p, q, 150)
            for t, place in list(enumerate(places))[:40]:
                for i in range(p):
                    corner = corner_of(gluing, (t, i))
                    if mate_of(gluing, corner[-1]) is not None:
                        at = corner.index((t, i))
                        due = [(places[u], j) for u, j in corner[at:] + corner[:at]]
                        self.assertTrue(exactly_equal(round_corner(p, q, place, i), due))


class Walks(unittest.TestCase):
    def test_walked_step_by_step(self):
        for p, q in FAR_OUT:
            for place in ((0, 0), (1, 2), (3, 1), (40, 5), (400, 3)):
                self.assertTrue(exactly_equal(walked(p, q, place, []), [place]))
                sides = [(k * k + k // 3) % p for k in range(100 if place[0] < 9 else 12)]
                due = [place]
                for i in sides:
                    due.append(over(p, q, due[-1], i)[0])
                self.assertTrue(exactly_equal(walked(p, q, place, sides), due))
                self.assertTrue(exactly_equal(walked(p, q, place, tuple(sides)), due))

    def test_straight(self):
        for p, q in KINDS:
            if p % 2 == 0:
                for place in ((0, 0), (1, 1), (2, 3), (40, 4)):
                    for i in (0, 1, p - 1):
                        self.assertTrue(exactly_equal(straight(p, q, place, i, 0), (place, i)))
                        at, side = place, i
                        for n in range(1, 8):
                            at, side = over(p, q, at, side)
                            side = (side + p // 2) % p
                            self.assertTrue(exactly_equal(straight(p, q, place, i, n), (at, side)))

    def test_straight_over_the_middle(self):
        # Straight on and on out of the middle, and the same way back beyond it.
        self.assertEqual(straight(4, 4, (0, 0), 2, 100), ((100, 400), 2))
        for p, q in ((4, 4), (4, 5), (6, 3), (6, 4), (8, 3), (12, 12)):
            place, side = straight(p, q, (0, 0), 1, 20)
            back = (side + p // 2) % p
            self.assertEqual(straight(p, q, place, back, 20), ((0, 0), 1 + p // 2))
            self.assertEqual(straight(p, q, place, back, 100)[0][0], 80)


class Near(unittest.TestCase):
    def test_by_neighbours(self):
        for p, q in SOME:
            for place in ((0, 0), (1, 0), (2, 3), (4, 1), (40, 6)):
                for n in range(4 if p < 6 else 3):
                    due = sorted(apart(p, q, place, n))
                    self.assertTrue(exactly_equal(near(p, q, place, n), due))

    def test_numbers_on_the_floor_of_squares(self):
        for n in range(32):
            self.assertEqual(len(near(4, 4, (5, 7), n)), 2 * n * (n + 1) + 1)
        for n in (32, 33, 40, 10 ** 6):
            with self.assertRaises(TooMany):
                near(4, 4, (5, 7), n)

    def test_just_as_many_as_there_may_be(self):
        # Of triangles 1 + 3 n (n + 1) / 2 lie within n sides: 1,999 of 36, more of 37.
        self.assertEqual(len(near(3, 6, (40, 3), 36)), 1999)
        with self.assertRaises(TooMany):
            near(3, 6, (40, 3), 37)
        with self.assertRaises(TooMany):
            near(12, 12, (0, 0), 4)

    def test_least_sides(self):
        for p, q in SOME:
            for one in ((0, 0), (2, 1), (5, 4)):
                due = apart(p, q, one, 3)
                for other in sorted(due)[::max(1, len(due) // 25)]:
                    self.assertTrue(exactly_equal(least_sides(p, q, one, other), due[other]))
                    self.assertTrue(exactly_equal(least_sides(p, q, other, one), due[other]))

    def test_least_walks_are_judged_right(self):
        for p, q in SOME + ((12, 12), (12, 3), (3, 12)):
            places = sorted(apart(p, q, (1, 1), 3 if p < 9 else 2))
            for other in places[::max(1, len(places) // 15)]:
                sides = least_walk(p, q, (1, 1), other)
                self.assertIs(type(sides), list)
                self.assertEqual(walked(p, q, (1, 1), sides)[-1], other)
                self.assertEqual(len(sides), least_sides(p, q, (1, 1), other))
                self.assertIsNone(judge_walk(p, q, (1, 1), other, sides))
                self.assertIsNone(judge_walk(p, q, (1, 1), other, tuple(sides)))
        self.assertTrue(exactly_equal(least_walk(4, 4, (3, 3), (3, 3)), []))

    def test_too_many_nearer(self):
        # On the floor of squares 1,985 lie within 31 sides, 2,113 within 32: so those 33 sides off are too far.
        places = [(k, 0) for k in (31, 32, 33, 34)]
        self.assertEqual([least_sides(4, 4, (0, 0), place) for place in places[:2]], [31, 32])
        self.assertEqual([len(least_walk(4, 4, (0, 0), place)) for place in places[:2]], [31, 32])
        self.assertIsNone(judge_walk(4, 4, (0, 0), places[1], [0] + [2] * 31))
        for place in places[2:] + [(400, 0), (40, 160)]:
            for value in ([], [0] + [2] * 32, None, ["a"], {}):
                with self.assertRaises(TooMany):
                    judge_walk(4, 4, (0, 0), place, value)
            for call in (least_sides, least_walk):
                with self.assertRaises(TooMany):
                    call(4, 4, (0, 0), place)
        for call in (least_sides, least_walk):
            with self.assertRaises(TooMany):
                call(12, 12, (0, 0), (40, 10 ** 20))


class JudgeWalk(unittest.TestCase):
    def test_each_fault(self):
        for one, other, value, due in (((0, 0), (2, 0), [0, 2], None), ((0, 0), (2, 0), (0, 2), None),
                                       ((0, 0), (2, 0), [0, 2, 2, 0], ("longer", 2)), ((0, 0), (0, 0), [], None),
                                       ((0, 0), (0, 0), (), None), ((0, 0), (0, 0), [1, 0], ("longer", 2)),
                                       ((0, 0), (2, 0), [], ("ends", (0, 0))), ((0, 0), (2, 0), [1, 2], ("ends", (2, 4))),
                                       ((0, 0), (2, 0), [0, 2, 2], ("ends", (3, 0))), ((0, 0), (2, 0), [0, 4], ("form",)),
                                       ((0, 0), (2, 0), [0, -1], ("form",)), ((0, 0), (2, 0), [False, 2], ("form",)),
                                       ((0, 0), (1, 2), [True], ("form",)), ((0, 0), (1, 2), [1], None),
                                       ((0, 0), (1, 2), [[1]], ("form",)), ((0, 0), (1, 2), "1", ("form",)),
                                       ((0, 0), (1, 2), {1: 1}, ("form",)), ((0, 0), (1, 2), [1, None], ("form",))):
            self.assertTrue(exactly_equal(judge_walk(4, 4, one, other, value), due), (one, other, value))

    def test_any_value(self):
        for value in STRANGE:
            due = ("form",) if value not in ((), [], (1,), [1]) else None if value else ("ends", (0, 0))
            self.assertTrue(exactly_equal(judge_walk(4, 4, (0, 0), (1, 2), value), due), value)
        for value in changes((0, 1), STRANGE + [2, 3, 4]):
            sides = list(value) if isinstance(value, (list, tuple)) else [None]
            if any(type(i) is not int or i not in range(4) for i in sides):
                due = ("form",)
            elif walked(4, 4, (1, 0), sides)[-1] != (1, 7):
                due = ("ends", walked(4, 4, (1, 0), sides)[-1])
            else:
                due = ("longer", len(sides) - 1) if len(sides) > 1 else None
            self.assertTrue(exactly_equal(judge_walk(4, 4, (1, 0), (1, 7), value), due), value)

    def test_beyond_ring_one_thousand(self):
        out = [0] + [2] * 1199
        self.assertEqual(judge_walk(4, 4, (0, 0), (0, 0), out), ("ends", (1200, 0)))
        self.assertEqual(judge_walk(4, 4, (0, 0), (0, 0), [0] + [2] * 999 + [0] * 1000), ("longer", 2000))
        self.assertEqual(judge_walk(7, 3, (0, 0), (0, 0), [0] + [2, 3] * 999)[0], "ends")


class Patches(unittest.TestCase):
    def test_against_over(self):
        for p, q in SOME:
            for places in ([(1, 0)], [(2, 1), (1, 0), (1, 1)], near(p, q, (2, 3), 1), near(p, q, (40, 1), 1)[::-1],
                           [(0, 0), (3, 0)], [(4, 2), (0, 0), (1, 1), (2, 0)]):
                made = patch(p, q, places)
                ties = set()
                for t, place in enumerate(places):
                    for i in range(p):
                        other, j = over(p, q, place, i)
                        if other in places:
                            ties.add(tuple(sorted([(t, i), (places.index(other), j)])))
                self.assertTrue(is_gluing(made))
                self.assertTrue(exactly_equal(made, ((p,) * len(places), tuple(sorted(ties)))))
                self.assertTrue(exactly_equal(patch(p, q, tuple(places)), made))
                self.assertTrue(is_of(made, p, q) or len(places) > 6)

    def test_places_that_do_not_touch(self):
        self.assertEqual(patch(4, 4, [(3, 0), (0, 0), (40, 5)]), ((4, 4, 4), ()))
        self.assertEqual(patch(7, 3, [(400, 12345)]), ((7,), ()))

    def test_sixty_places_in_any_order(self):
        for p, q in ((4, 4), (7, 3), (3, 7)):
            gluing, places = rings_laid(p, q, 60)
            order = [11 * t % len(places) for t in range(len(places))]
            self.assertEqual(len(set(order)), len(places))
            whole = patch(p, q, [places[t] for t in order])
            self.assertEqual(len(whole[1]), len(gluing[1]))
            self.assertEqual(patch(p, q, places), gluing)
            self.assertEqual(patch(p, q, places[::2]), part_of(gluing, range(0, len(places), 2)))

    def test_within_ring_is_what_ringed_makes(self):
        for p, q in KINDS:
            gluing, side = one_tile(p), (0, 0)
            for n in range(3):
                if within(p, q, n) > 400:
                    with self.assertRaises(TooMany):
                        within_ring(p, q, n)
                    break
                made = within_ring(p, q, n)
                self.assertTrue(exactly_equal(made, gluing), (p, q, n))
                if within(p, q, n + 1) <= 400:
                    many = len(gluing[0])
                    gluing = ringed(gluing, p, q, side)
                    side = [each for each in rim_sides(gluing) if each[0] >= many][0]
            self.assertTrue(is_disc(within_ring(p, q, 1)))

    def test_as_far_as_there_are_four_hundred(self):
        for p, q, n, many in ((4, 4, 9, 361), (6, 3, 11, 397), (3, 6, 7, 337), (7, 3, 4, 232), (3, 7, 3, 181)):
            self.assertEqual(len(within_ring(p, q, n)[0]), many)
            for far in (n + 1, n + 2, 401, 10 ** 30, 10 ** 99):
                with self.assertRaises(TooMany):
                    within_ring(p, q, far)


if __name__ == "__main__":
    unittest.main()

"""Places in rings: kinds, paths, makers, and what tiles touch in the ring ahead."""

import unittest

from tests.helpers import STRANGE, changes, exactly_equal, rings_laid
from whatrims.corners import corner_of
from whatrims.gluings import mate_of
from whatrims.places import (elders, first_made, inside_outside, is_place, kind_of_place, made, maker, path_of,
                             place_of_path)
from whatrims.ringcounts import makes, ring_kinds, ring_size, within

KINDS = [(p, q) for p in range(3, 13) for q in range(3, 13) if (p - 2) * (q - 2) >= 4]
SOME = ((3, 6), (3, 7), (3, 9), (4, 4), (4, 5), (5, 4), (5, 5), (6, 3), (7, 3), (8, 3), (6, 4), (4, 8))


def kinds_of_rings(p, q, n, most=400):
    """Return the strings of kinds of the rings 0 to n, but only of those of so many tiles at most."""
    found = []
    for k in range(n + 1):
        if ring_size(p, q, k) > most:
            break
        found.append(ring_kinds(p, q, k))
    return found


class InsideOutside(unittest.TestCase):
    def test_each_kind(self):
        for p, q in KINDS:
            self.assertTrue(exactly_equal(inside_outside(p, q, "O"), (0, p)))
            if q == 3:
                due = {"A": (1, p - 3), "B": (2, p - 4)}
            elif p == 3:
                due = {"S": (1, 0), "C": (0, 1), "D": (0, 1)}
            else:
                due = {"S": (1, p - 3), "C": (0, p - 2)}
            for kind in due:
                self.assertTrue(exactly_equal(inside_outside(p, q, kind), due[kind]))


class IsPlace(unittest.TestCase):
    def test_first_and_last_ones_and_beyond(self):
        for p, q in SOME:
            for k in (0, 1, 2, 3, 50, 400):
                size = ring_size(p, q, k)
                told = [is_place(p, q, (k, j)) for j in (-1, 0, size - 1, size, size + 1)]
                self.assertEqual(told, [False, True, True, False, False])
        self.assertIs(is_place(4, 4, (0, 1)), False)

    def test_the_last_ring(self):
        for p, q, size in ((4, 4, 8000), (6, 3, 6000), (3, 6, 12000)):
            self.assertIs(is_place(p, q, (1000, size - 1)), True)
            self.assertIs(is_place(p, q, (1000, size)), False)
            self.assertIs(is_place(p, q, (1001, 0)), False)
        for p, q in ((7, 3), (12, 12), (3, 7)):
            self.assertIs(is_place(p, q, (1000, 10 ** 40 - 1)), True)
            self.assertIs(is_place(p, q, (1001, 0)), False)
            self.assertIs(is_place(p, q, (10 ** 40 - 1, 0)), False)
            self.assertIs(is_place(p, q, (1000, -1)), False)
            self.assertIs(is_place(p, q, (-1, 0)), False)

    def test_any_value(self):
        for value in STRANGE + [(0, False), (False, 0), (1, True), (True, 1), [1, 1], (1,), (1, 1, 1), (1, [1]), ((1, 1),),
                                (1, "1"), ("1", 1), (None, 0), (1, None), ((1, 0), (1, 0))]:
            self.assertIs(is_place(4, 4, value), False)
        for value in changes((1, 1), STRANGE + [7, 8, 1001]):
            due = exactly_equal(value, (1, 0)) or value in [(1, 4), (1, 7), (4, 1), (1, 1), (7, 1), (8, 1)]
            due = due and isinstance(value, tuple) and not any(isinstance(part, bool) for part in value)
            self.assertIs(is_place(4, 4, value), due, value)


class Paths(unittest.TestCase):
    def test_tile_by_tile(self):
        for p, q in KINDS:
            rings = kinds_of_rings(p, q, 5)
            rule = makes(p, q)
            self.assertEqual(path_of(p, q, (0, 0)), ())
            self.assertEqual(kind_of_place(p, q, (0, 0)), "O")
            paths = [(j,) for j in range(len(rings[1]))]
            for k in range(1, len(rings)):
                self.assertEqual(len(paths), len(rings[k]))
                step = max(1, len(paths) // 60)
                for j in list(range(0, len(paths), step)) + [len(paths) - 1]:
                    self.assertTrue(exactly_equal(path_of(p, q, (k, j)), paths[j]), (p, q, k, j))
                    self.assertTrue(exactly_equal(place_of_path(p, q, paths[j]), (k, j)))
                    self.assertEqual(kind_of_place(p, q, (k, j)), rings[k][j])
                paths = [path + (n,) for path, kind in zip(paths, rings[k]) for n in range(len(rule[kind]))]

    def test_far_out(self):
        for p, q in ((3, 6), (4, 4), (6, 3), (7, 3), (3, 7), (12, 12), (4, 5)):
            for k in (40, 400):
                size = ring_size(p, q, k)
                for j in (0, 1, size // 3, size // 2 + 5, size - 1):
                    path = path_of(p, q, (k, j))
                    self.assertEqual(len(path), k)
                    self.assertTrue(exactly_equal(place_of_path(p, q, path), (k, j)))
                    self.assertEqual(maker(p, q, (k, j)), (place_of_path(p, q, path[:-1]), path[-1]))
                    first, one = first_made(p, q, (k, j)), made(p, q, (k, j))
                    kind = kind_of_place(p, q, (k, j))
                    self.assertEqual(one, [(k + 1, first + n) for n in range(len(makes(p, q)[kind]))])
                    for n, place in list(enumerate(one))[::7]:
                        self.assertEqual(path_of(p, q, place), path + (n,))


class Makers(unittest.TestCase):
    def test_tile_by_tile(self):
        for p, q in KINDS:
            rings = kinds_of_rings(p, q, 4, 300)
            rule = makes(p, q)
            self.assertTrue(exactly_equal(made(p, q, (0, 0)), [(1, j) for j in range(len(rings[1]))]))
            self.assertEqual(first_made(p, q, (0, 0)), 0)
            for j in range(len(rings[1])):
                self.assertTrue(exactly_equal(maker(p, q, (1, j)), ((0, 0), j)))
            for k in range(1, len(rings)):
                first = 0
                for j, kind in enumerate(rings[k]):
                    due = [(k + 1, first + n) for n in range(len(rule[kind]))]
                    if j % max(1, len(rings[k]) // 60) == 0 or j == len(rings[k]) - 1:
                        self.assertTrue(exactly_equal(made(p, q, (k, j)), due))
                        self.assertTrue(exactly_equal(first_made(p, q, (k, j)), first))
                        for n, place in enumerate(due):
                            self.assertTrue(exactly_equal(maker(p, q, place), ((k, j), n)))
                    first += len(due)

    def test_tiles_that_make_nothing(self):
        self.assertEqual([made(3, 6, (1, j)) for j in (0, 4, 8)], [[], [], []])
        # What is behind such a tile goes on where what is ahead of it ended.
        self.assertEqual([first_made(3, 6, (1, j)) for j in range(6)], [0, 0, 3, 6, 8, 8])
        self.assertEqual([maker(3, 6, (2, j))[0] for j in range(9)], [(1, 1)] * 3 + [(1, 2)] * 3 + [(1, 3)] * 2 + [(1, 5)])


class Elders(unittest.TestCase):
    def test_round_one_tile(self):
        for p, q in KINDS:
            for j in range(ring_size(p, q, 1)):
                self.assertTrue(exactly_equal(elders(p, q, (1, j)), ((0, 0),)))

    def test_as_rings_are_laid(self):
        counts = set()
        for p, q in SOME:
            gluing, places = rings_laid(p, q, 500)
            last = places[-1][0]
            for t, (k, j) in enumerate(places):
                if 2 <= k and t % max(1, len(places) // 120) == 0:
                    found = self.check(p, q, gluing, places, t)
                    counts.add((len(found), p, q))
            self.assertGreaterEqual(last, 2)
        self.assertEqual({many for many, _, _ in counts}, {1, 2, 3})
        self.assertEqual({many for many, p, _ in counts if p == 3}, {1, 2, 3})
        self.assertEqual({many for many, p, q in counts if q == 3}, {1, 2})

    def check(self, p, q, gluing, places, t):
        """Compare elders with what lies within, in the gluing of all rings laid."""
        k, j = places[t]
        inside, _ = inside_outside(p, q, kind_of_place(p, q, (k, j)))
        if inside:
            # Of the sides inside the one that comes later is the first.
            due = [places[mate_of(gluing, (t, i))[0]] for i in range(inside)][::-1]
        else:
            due = [places[u] for u, _ in corner_of(gluing, (t, 0)) if places[u][0] == k - 1]
            size = ring_size(p, q, k - 1)
            due = [place for place in due if (k - 1, (place[1] - 1) % size) not in due][:1]
            many = sum(places[u][0] == k - 1 for u, _ in corner_of(gluing, (t, 0)))
            due = [(k - 1, (due[0][1] + n) % size) for n in range(many)]
            self.assertEqual({place for place in due},
                             {places[u] for u, _ in corner_of(gluing, (t, 0)) if places[u][0] == k - 1})
        found = elders(p, q, (k, j))
        self.assertTrue(exactly_equal(found, tuple(due)), (p, q, k, j))
        self.assertEqual(maker(p, q, (k, j))[0], found[-1] if inside else found[0])
        return found

    def test_each_sort(self):
        for p, q, place, due in ((4, 4, (2, 0), ((1, 0),)), (4, 4, (2, 2), ((1, 1),)), (4, 6, (2, 1), ((1, 0), (1, 1))),
                                 (4, 5, (2, ring_size(4, 5, 2) - 1), ((1, 11), (1, 0))), (7, 3, (2, 0), ((1, 6), (1, 0))),
                                 (7, 3, (2, 1), ((1, 0),)), (7, 3, (2, 3), ((1, 0), (1, 1))), (3, 6, (2, 0), ((1, 1),)),
                                 (3, 6, (2, 1), ((1, 1), (1, 2))), (3, 6, (2, 23), ((1, 11), (1, 0), (1, 1)))):
            self.assertTrue(exactly_equal(elders(p, q, place), due), (p, q, place))


class Whole(unittest.TestCase):
    def test_all_places_ascending_are_all_tiles(self):
        for p, q in SOME:
            _, places = rings_laid(p, q, 400)
            self.assertEqual(len(places), within(p, q, places[-1][0]))
            self.assertTrue(all(is_place(p, q, place) for place in places[::9]))


if __name__ == "__main__":
    unittest.main()

"""What holds for all calls: nothing passed is changed, what is returned is new and the same each time."""

import ast
import copy
import inspect
import pathlib
import unittest

import whatrims
from tests.helpers import (APART, BAND, BLOCK, FOLDED, NAMED, ONE, PIERCED_TORUS, TETRAHEDRON, TORUS, TWO,
                           exactly_equal)
from whatrims import (closed, coils, console, corners, deeds, discs, drawn, duals, errors, filling, firsts, floors,
                      forms, gluings, house, laying, odd, over, parts, pieces, places, plain, rims, ringcounts, rings,
                      sums, taking, texts, ways)
from whatrims.errors import BadText, NotLaid

WORD = (1, 2) * 4
RIM_OF_TWO = (1, 1, 2, 1, 1, 2)
LAYINGS = ((4,), (1, 1, 4), (0, 2, 4))
FORM_OF_TWO = ((4, 4), (((0, 0), (1, 0)),))
SHELF = {"a": ("gluing", TWO), "w": ("word", WORD)}
CAP = ((3, 3, 3), (((0, 1), (1, 2)), ((0, 2), (2, 1)), ((1, 1), (2, 2))))
ROW = ((4, 4, 4), (((0, 1), (1, 3)), ((1, 1), (2, 3))))
BENT = ((4, 4, 4), (((0, 1), (1, 3)), ((1, 0), (2, 2))))

# The files of the interface, and all files of the package.
PARTS = (gluings, texts, corners, rims, pieces, sums, drawn, laying, taking, forms, discs, rings, ringcounts, places,
         over, ways, filling, coils, odd, closed, duals, deeds)
FILES = PARTS + (errors, firsts, floors, parts, plain, house, console)

# What may be imported from outside the package.
MATH = (("math", ["gcd"]), ("math", ["isqrt"]))

# Each function of the interface, with what it is passed.
CALLS = (
    (gluings.is_gluing, [TWO], [[(4,), ()]], [((4,), [[(0, 0), [0, 1]]])], [{"a": [1]}]),
    (gluings.is_side, [TWO, (0, 0)], [TWO, [0, [0]]], [TWO, {"a": []}]),
    (gluings.sides_of, [TWO]),
    (gluings.rim_sides, [TWO]),
    (gluings.mate_of, [TWO, (0, 1)], [TWO, (0, 0)]),
    (gluings.next_side, [TWO, (0, 3)]),
    (gluings.side_before, [TWO, (0, 0)]),
    (gluings.one_tile, [5]),
    (gluings.beside, [TWO, BAND]),
    (gluings.tied, [TWO, (0, 0), (1, 1)]),
    (gluings.parted, [TWO, (0, 1)]),
    (gluings.part_of, [APART, [0, 2]], [APART, (0, 2)]),
    (gluings.named, [TWO, (1, 0), (2, 3)]),
    (gluings.mirrored, [TWO]),
    (texts.gluing_text, [TWO]),
    (texts.word_text, [WORD]),
    (texts.read_gluing, ["4 4;0.1=1.3"]),
    (texts.read_word, ["1 2 3"]),
    (corners.onward, [TWO, (0, 1)]),
    (corners.backward, [TWO, (0, 2)]),
    (corners.corner_of, [TWO, (0, 2)]),
    (corners.is_inner, [TWO, ((0, 0),)]),
    (corners.corners, [BLOCK]),
    (rims.next_rim_side, [TWO, (0, 0)]),
    (rims.rims, [BAND]),
    (rims.rim_of, [TWO, (0, 2)]),
    (rims.rim_word, [TWO, (0, 2)]),
    (rims.rim_words, [BAND]),
    (pieces.pieces, [APART]),
    (pieces.counts, [BLOCK]),
    (pieces.worth, [BLOCK]),
    (pieces.handles, [BAND]),
    (pieces.twice, [FOLDED]),
    (pieces.is_disc, [BLOCK]),
    (pieces.is_ball, [BLOCK]),
    (pieces.kind_fault, [BLOCK, 4, 5], [BLOCK, 4, 4]),
    (pieces.is_of, [BLOCK, 4, 4]),
    (pieces.over_sides, [BLOCK, 0]),
    (pieces.touching, [BLOCK, 0]),
    (pieces.apart, [BLOCK, 0, 2]),
    (pieces.layers, [BLOCK, 0]),
    (sums.floor_of, [4, 4]),
    (sums.ball_counts, [5, 3]),
    (sums.turned_word, [WORD, 3]),
    (sums.least_turn, [WORD]),
    (sums.back_word, [WORD]),
    (sums.tiles_sum, [TWO, 4]),
    (sums.worth_sum, [TWO, 4]),
    (sums.over_corners, [BLOCK, 5]),
    (sums.corners_sum, [BLOCK, 4]),
    (sums.worth_corners, [BLOCK, 4]),
    (sums.over_tiles, [BLOCK, 3]),
    (sums.corners_gap, [BLOCK, 3]),
    (sums.rim_sum, [4, WORD]),
    (sums.rim_corners_sum, [4, WORD]),
    (sums.rim_length, [4, 4, 1]),
    (drawn.drawn, [4, 4, WORD]),
    (drawn.turns_of, [4, 4, WORD]),
    (drawn.comes_home, [4, 4, WORD]),
    (drawn.touches, [4, 4, (1,) * 8]),
    (drawn.cross_sum, [[(0, 0), (1, 0), (1, 1), (0, 0)]], [((0, 0), (1, 0), (1, 1), (0, 0))]),
    (drawn.area_of, [4, 4, WORD]),
    (drawn.size_of, [4, 4, WORD], [4, 5, WORD], [4, 4, (1, 1, 1)]),
    (drawn.unlike_sizes, [4, 4], [3, 6], [6, 3], [7, 3]),
    (drawn.judge_unlike, [4, 4, ("words", WORD, WORD)], [4, 4, ["words", [1, 2], {"a": []}]], [4, 4, None]),
    (drawn.sized_words, [4, 4, 6]),
    (drawn.sizes_told, [4, 4, 8]),
    (laying.laid, [TWO, (0, 2), 3, 5]),
    (laying.laid_word, [WORD, 6, 3, 7]),
    (laying.may_lay, [4, 4, WORD, 0, 1]),
    (laying.lays, [4, 3, WORD]),
    (laying.is_layings, [LAYINGS], [[[4], [0, 1, 4]]], [((4,), [0, 1, {"a": []}])]),
    (laying.built, [LAYINGS]),
    (laying.begins, [LAYINGS]),
    (taking.taken, [BLOCK, 1]),
    (taking.takers, [BLOCK]),
    (taking.takings, [BLOCK]),
    (taking.layings_of, [BLOCK]),
    (taking.judge_layings, [BLOCK, LAYINGS], [BLOCK, [[4], [0, 1, 4]]], [BLOCK, ((4,), (9, 1, 4))]),
    (taking.not_disc, [BLOCK], [APART], [BAND], [TORUS], [PIERCED_TORUS], [FOLDED]),
    (forms.code, [BLOCK, (2, 1)]),
    (forms.form, [BLOCK]),
    (forms.is_form, [BLOCK], [[[4], []]]),
    (forms.starts, [BLOCK]),
    (forms.is_like, [BLOCK, TWO]),
    (forms.likening, [BLOCK, BLOCK], [ONE, TWO], [TWO, BAND], [ROW, BENT]),
    (forms.judge_likening, [ROW, BENT, ("forms", [ROW], {"a": [BENT]})], [TWO, TWO, ("like", [0, 1], [0, 0])],
     [ROW, BENT, ("rims", 1, 1)], [TWO, TWO, ("like", (0, 1), (1, 0))]),
    (forms.is_mirrorlike, [BLOCK]),
    (forms.mirror_form, [BLOCK]),
    (discs.grown, [4, 4, [FORM_OF_TWO, FORM_OF_TWO]], [4, 4, (FORM_OF_TWO,)]),
    (discs.all_discs, [4, 4, 4]),
    (discs.counted, [4, 4, 4]),
    (discs.is_disc_form, [4, 4, FORM_OF_TWO], [4, 4, [[4], []]]),
    (discs.most_turned, [4, 4, 4]),
    (rings.ring, [4, 4, (1, 2, 1, 1, 2, 1)]),
    (rings.ringed, [TWO, 4, 4, (1, 1)]),
    (ringcounts.ring_kinds, [7, 3, 2]),
    (ringcounts.makes, [7, 3], [3, 7], [4, 5]),
    (ringcounts.ring_counts, [7, 3, 5], [7, 3, 0]),
    (ringcounts.ring_size, [7, 3, 5]),
    (ringcounts.within, [7, 3, 5]),
    (ringcounts.ring_rests, [7, 3, 10 ** 30, 7]),
    (ringcounts.ring_of_tile, [7, 3, 100]),
    (places.inside_outside, [7, 3, "B"]),
    (places.is_place, [7, 3, (2, 3)], [7, 3, [2, [3]]], [7, 3, {"a": [1]}]),
    (places.kind_of_place, [7, 3, (2, 3)]),
    (places.path_of, [7, 3, (2, 3)]),
    (places.place_of_path, [7, 3, (1, 0)]),
    (places.maker, [7, 3, (2, 3)]),
    (places.made, [7, 3, (2, 3)]),
    (places.first_made, [7, 3, (2, 3)]),
    (places.elders, [7, 3, (2, 3)]),
    (over.over, [7, 3, (2, 3), 1]),
    (over.side_words, [7, 3, (2, 3)]),
    (over.neighbours, [7, 3, (2, 3)]),
    (over.round_corner, [7, 3, (2, 3), 1]),
    (over.walked, [4, 4, (0, 0), [0, 2, 2]], [4, 4, (0, 0), (0, 2, 2)]),
    (over.straight, [4, 4, (2, 3), 1, 9]),
    (over.near, [7, 3, (2, 3), 2]),
    (over.least_sides, [7, 3, (2, 3), (1, 5)]),
    (over.least_walk, [7, 3, (2, 3), (1, 5)]),
    (over.judge_walk, [4, 4, (0, 0), (2, 0), [0, 2]], [4, 4, (0, 0), (2, 0), (0, 1)],
     [4, 4, (0, 0), (2, 0), [[0], {}]]),
    (over.patch, [4, 4, [(1, 1), (1, 0)]], [4, 4, ((1, 1), (1, 0))]),
    (over.within_ring, [7, 3, 1]),
    (ways.is_word, [4, 4, WORD], [4, 4, [[1], {"a": [1]}]]),
    (ways.mirror_word, [WORD]),
    (ways.ways, [4, 4, WORD], [4, 4, (1, 1, 1)]),
    (ways.rests, [4, 4, WORD, ((), (7, 1))]),
    (ways.way_of, [4, 4, TWO, (0, 3)]),
    (ways.parts_of, [4, 4, TWO, (0, 3)]),
    (filling.fill, [4, 4, WORD], [7, 3, (1,) * 12]),
    (filling.judge_fill, [4, 4, WORD, ("disc", TWO, (0, 0))], [4, 4, WORD, ("barred", [[1, 1, 1], {"a": []}])],
     [4, 4, WORD, ("barred", (WORD,))], [4, 4, WORD, ["disc", [[4], []], [0, 0]]]),
    (filling.fills, [4, 4, WORD]),
    (filling.all_fills, [4, 4, WORD]),
    (filling.put_first, [4, 4, RIM_OF_TWO, ((2, 0), (5, 1)), [(ONE, (0, 0))]],
     [4, 4, RIM_OF_TWO, ((2, 0), (5, 1)), ((ONE, (0, 0)),)]),
    (filling.filled_words, [4, 4, 6]),
    (coils.coil, [7, 3, 9]),
    (coils.coil_rim, [7, 3, 10 ** 20]),
    (odd.due_counts, [3, (5, 6), (1, 1, 1, 1), 3]),
    (odd.fill_with, [3, (5, 6), (1, 2) * 5, 6], [3, (5, 6), (1, 1, 1, 1), 3]),
    (odd.judge_fill_with, [3, (5, 6), (1,) * 5, 2, ("disc", ((5,), ()), (0, 0))],
     [3, (5, 6), (1,) * 5, 2, ("barred", (((1,) * 5, 2),))], [3, (5, 6), (1,) * 5, 2, ("barred", [[(1, 1), [2]], {}])]),
    (closed.glued, [((3,), ()), (0, 0), CAP, (0, 0), 3]),
    (closed.ball_of, [5, 3]),
    (closed.ring_fault, [TETRAHEDRON, ((0, 0), (0, 1), (0, 2))], [TETRAHEDRON, ((0, 0), (1, 0))]),
    (closed.halves, [TETRAHEDRON, ((0, 0), (0, 1), (0, 2))]),
    (duals.dual, [BLOCK], [TETRAHEDRON], [TWO]),
    (deeds.is_thing, [("gluing", TWO)], [["gluing", [[4], []]]], [{"word": [1]}]),
    (deeds.thing_text, [("gluing", TWO)], [("word", WORD)]),
    (deeds.after, [SHELF, ("mirror", "b", "a")], [SHELF, ("away", "a")], [SHELF, ("word", "a", WORD)]),
    (deeds.deed_text, [("lay", "b", "a", (0, 3), 1, 4)]),
    (deeds.read_deed, ["lay b a 0.3 1 4"]),
)

PARAMETERS = """
is_gluing(value), is_side(gluing, value), sides_of(gluing), rim_sides(gluing), mate_of(gluing, side)
next_side(gluing, side), side_before(gluing, side); one_tile(s), beside(one, other), tied(gluing, one, other)
parted(gluing, side), part_of(gluing, tiles); named(gluing, order, firsts), mirrored(gluing)
gluing_text(gluing), word_text(word); read_gluing(text), read_word(text)
onward(gluing, share); backward(gluing, share); corner_of(gluing, share); is_inner(gluing, corner); corners(gluing)
next_rim_side(gluing, side); rims(gluing); rim_of(gluing, side); rim_word(gluing, side); rim_words(gluing)
pieces(gluing); counts(gluing); worth(gluing); handles(gluing); twice(gluing); is_disc(gluing); is_ball(gluing)
kind_fault(gluing, p, q); is_of(gluing, p, q); over_sides(gluing, t); touching(gluing, t); apart(gluing, t, u)
layers(gluing, t)
floor_of(p, q); ball_counts(p, q); turned_word(word, k); least_turn(word); back_word(word); tiles_sum(gluing, q)
worth_sum(gluing, q); over_corners(gluing, q); corners_sum(gluing, p); worth_corners(gluing, p)
over_tiles(gluing, p); corners_gap(gluing, p); rim_sum(q, word); rim_corners_sum(p, word); rim_length(p, n, v)
drawn(p, q, word); turns_of(p, q, word); comes_home(p, q, word); touches(p, q, word); cross_sum(places)
area_of(p, q, word); size_of(p, q, word); unlike_sizes(p, q); judge_unlike(p, q, value); sized_words(p, q, b)
sizes_told(p, q, b)
laid(gluing, side, k, s); laid_word(word, i, k, s); may_lay(p, q, word, i, k); lays(p, q, word); is_layings(value)
built(layings); begins(layings)
taken(gluing, t); takers(gluing); takings(gluing); layings_of(gluing); judge_layings(gluing, value); not_disc(gluing)
code(gluing, side); form(gluing); is_form(value); starts(gluing); is_like(one, other); likening(one, other)
judge_likening(one, other, value); is_mirrorlike(gluing); mirror_form(gluing)
grown(p, q, forms); all_discs(p, q, n); counted(p, q, n); is_disc_form(p, q, value); most_turned(p, q, n)
ring(p, q, word), ringed(gluing, p, q, side)
ring_kinds(p, q, n), makes(p, q); ring_counts(p, q, n), ring_size(p, q, n), within(p, q, n), ring_rests(p, q, n, m)
ring_of_tile(p, q, k)
inside_outside(p, q, kind); is_place(p, q, value); kind_of_place(p, q, place); path_of(p, q, place)
place_of_path(p, q, path); maker(p, q, place); made(p, q, place); first_made(p, q, place); elders(p, q, place)
over(p, q, place, i); side_words(p, q, place); neighbours(p, q, place); round_corner(p, q, place, i)
walked(p, q, place, sides); straight(p, q, place, i, n); near(p, q, place, n); least_sides(p, q, one, other)
least_walk(p, q, one, other); judge_walk(p, q, one, other, value); patch(p, q, places); within_ring(p, q, n)
is_word(p, q, value); mirror_word(word); ways(p, q, word); rests(p, q, word, way); way_of(p, q, gluing, side)
parts_of(p, q, gluing, side)
fill(p, q, word); judge_fill(p, q, word, value); fills(p, q, word); all_fills(p, q, word)
put_first(p, q, word, way, discs); filled_words(p, q, b)
coil(p, q, n); coil_rim(p, q, n)
due_counts(q, sizes, word, n); fill_with(q, sizes, word, n); judge_fill_with(q, sizes, word, n, value)
glued(one, side, other, other_side, q); ball_of(p, q); ring_fault(ball, sides); halves(ball, sides)
dual(gluing)
is_thing(value); thing_text(thing); after(shelf, deed); deed_text(deed); read_deed(text)
"""

# The classes of the interface, with the parameters of their methods.
METHODS = (
    (house.House, {"number": [], "shelf": [], "shelf_at": ["number"], "elders": ["number"], "branches": [],
                   "present": [], "do": ["deed"], "undo": [], "redo": [], "branch": ["name"], "go": ["name"],
                   "merge": ["name"], "common": ["one", "other"], "ask": ["question"], "keep": ["label", "question"],
                   "labels": [], "paper": ["label"], "today": ["label"]}),
    (console.Console, {"house": [], "say": ["line"]}),
)


def lists_in(value):
    """Return all lists and dicts in a value, at any depth."""
    found = [value] if isinstance(value, (list, dict)) else []
    parts = value if isinstance(value, (list, tuple)) else list(value.values()) if isinstance(value, dict) else []
    for part in parts:
        found += lists_in(part)
    return found


class Calls(unittest.TestCase):
    def test_nothing_that_is_passed_is_changed(self):
        for function, *all_passed in CALLS:
            for passed in all_passed:
                kept = copy.deepcopy(passed)
                function(*passed)
                self.assertTrue(exactly_equal(passed, kept), function)

    def test_a_repeated_call_returns_an_equal_value(self):
        for function, *all_passed in CALLS:
            for passed in all_passed:
                self.assertTrue(exactly_equal(function(*passed), function(*copy.deepcopy(passed))), function)

    def test_returned_lists_are_new_and_the_callers_own(self):
        for function, *all_passed in CALLS:
            for passed in all_passed:
                first = function(*passed)
                kept = copy.deepcopy(first)
                second = function(*passed)
                lists = lists_in(first) + lists_in(second) + lists_in(passed)
                self.assertEqual(len({id(each) for each in lists}), len(lists), function)
                for each in lists_in(first):
                    each.clear()
                self.assertTrue(exactly_equal(function(*passed), kept), function)
                self.assertTrue(exactly_equal(second, kept), function)

    def test_lists_where_the_document_says_lists(self):
        for function, passed in ((gluings.sides_of, [TWO]), (gluings.rim_sides, [TWO]), (corners.corners, [TWO]),
                                 (rims.rims, [BAND]), (rims.rim_words, [BAND]), (pieces.pieces, [APART]),
                                 (pieces.twice, [FOLDED]), (pieces.touching, [BLOCK, 0]), (pieces.layers, [BLOCK, 0]),
                                 (drawn.drawn, [4, 4, WORD]), (drawn.touches, [4, 4, (1,) * 8]),
                                 (drawn.sized_words, [4, 4, 4]), (drawn.sizes_told, [4, 4, 4]),
                                 (laying.lays, [4, 4, WORD]), (taking.takers, [BLOCK]), (forms.starts, [BLOCK]),
                                 (discs.grown, [4, 4, [FORM_OF_TWO]]), (discs.all_discs, [4, 4, 3]),
                                 (discs.most_turned, [4, 4, 3]), (places.made, [4, 4, (1, 1)]),
                                 (over.neighbours, [4, 4, (1, 1)]), (over.round_corner, [4, 4, (1, 1), 0]),
                                 (over.walked, [4, 4, (1, 1), (0, 1)]), (over.near, [4, 4, (1, 1), 1]),
                                 (over.least_walk, [4, 4, (1, 1), (2, 5)]), (ways.ways, [4, 4, WORD]),
                                 (ways.rests, [4, 4, WORD, ((), (7, 1))]), (ways.parts_of, [4, 4, TWO, (0, 3)]),
                                 (filling.all_fills, [4, 4, WORD]), (filling.filled_words, [4, 4, 6]),
                                 (odd.due_counts, [3, (5, 6), (1, 1, 1, 1), 3])):
            told = function(*passed)
            self.assertIs(type(told), list)
            self.assertEqual(lists_in(told), [told])
            self.assertNotEqual(told, [])

    def test_errors_that_no_point_names_are_not_raised(self):
        for gluing in NAMED + [((3,) * 60, ()), ((24,) * 60, tuple(((t, 0), (t + 1, 1)) for t in range(59)))]:
            for part in (gluings, corners, rims, pieces):
                for function in vars(part).values():
                    if inspect.isfunction(function) and list(inspect.signature(function).parameters) == ["gluing"]:
                        if not function.__name__.startswith("_") and function is not pieces.handles:
                            function(gluing)

    def test_a_repeated_error_is_an_equal_one(self):
        places = []
        for _ in range(2):
            with self.assertRaises(BadText) as caught:
                texts.read_gluing("4 3;7.0")
            places.append(caught.exception.place)
        self.assertEqual(places, [7, 7])
        numbers = []
        for call in (laying.built, laying.begins) * 2:
            with self.assertRaises(NotLaid) as caught:
                call(((4,), (0, 1, 4), (9, 1, 4)))
            numbers.append(caught.exception.number)
        self.assertEqual(numbers, [2] * 4)


class Interface(unittest.TestCase):
    def test_each_function_stands_in_its_file_with_its_arguments(self):
        due = {}
        for row in PARAMETERS.replace(";", ",").replace("), ", ")\n").splitlines():
            if row:
                name, _, told = row.strip(")").partition("(")
                due[name] = told.split(", ")
        self.assertEqual(sorted(due), sorted(function.__name__ for function, *_ in CALLS))
        for function, *_ in CALLS:
            self.assertEqual(list(inspect.signature(function).parameters), due[function.__name__])

    def test_all_files_are_looked_at(self):
        names = [path.stem for path in pathlib.Path(whatrims.__file__).parent.glob("*.py")]
        self.assertEqual(sorted(names), sorted([part.__name__.partition(".")[2] for part in FILES] + ["__init__"]))

    def test_files_define_what_they_list(self):
        for part in PARTS:
            listed = [function.__name__ for function, *_ in CALLS if inspect.getmodule(function) is part]
            defined = [row.name for row in ast.parse(inspect.getsource(part)).body if isinstance(row, ast.FunctionDef)]
            self.assertEqual([name for name in listed if name not in defined], [])
            self.assertTrue(listed)
        self.assertEqual(len(CALLS), len({function for function, *_ in CALLS}))

    def test_classes_define_their_methods_themselves(self):
        for listed, methods in METHODS:
            self.assertEqual(list(inspect.signature(listed).parameters), [])
            self.assertEqual(listed.__bases__, (object,))
            for name, parameters in methods.items():
                self.assertEqual(list(inspect.signature(vars(listed)[name]).parameters), ["self", *parameters])
            self.assertEqual([name for name in vars(listed) if not name.startswith("_") and name not in methods], [])


class Sources(unittest.TestCase):
    def test_sizes_and_characters(self):
        for path in sorted(pathlib.Path(whatrims.__file__).parent.rglob("*")):
            if path.is_dir() or "__pycache__" in path.parts:
                continue
            text = path.read_bytes().decode("ascii")
            rows = text.splitlines()
            self.assertEqual(path.suffix, ".py")
            self.assertLess(len(rows), 400)
            self.assertTrue(all(len(row) <= 120 for row in rows), path)
            self.assertTrue(all(sign == "\n" or " " <= sign <= "~" for sign in text), path)
            for node in ast.walk(ast.parse(text)):
                if isinstance(node, ast.FunctionDef):
                    self.assertLessEqual(node.end_lineno - node.lineno + 1, 40, (path, node.name))

    def test_imports_are_of_the_package_or_of_what_may_be_called(self):
        for part in FILES:
            for node in ast.walk(ast.parse(inspect.getsource(part))):
                self.assertNotIsInstance(node, ast.Import)
                if isinstance(node, ast.ImportFrom):
                    names = [alias.name for alias in node.names]
                    self.assertTrue(node.module.startswith("whatrims.") or (node.module, names) in MATH)


if __name__ == "__main__":
    unittest.main()

"""Deeds: what they do to shelves, what they refuse, and their texts."""

import copy
import unittest

from tests.helpers import BALL, BAND, BLOCK, FAMILY, FOLDED, ONE, STRANGE, TORUS, TWO, changes, exactly_equal
from whatrims.closed import ball_of, glued
from whatrims.coils import coil
from whatrims.deeds import after, deed_text, is_thing, read_deed, thing_text
from whatrims.duals import dual
from whatrims.errors import BadDeed, BadName, BadText, NoRing, NotGlued, TooMany, UnknownName
from whatrims.filling import judge_fill
from whatrims.gluings import mirrored, one_tile, rim_sides
from whatrims.laying import laid
from whatrims.rims import rim_word
from whatrims.rings import ringed
from whatrims.taking import taken
from whatrims.texts import gluing_text, word_text

WORD = (1, 2) * 4
SIXTY = ((3,) * 60, ())
LONG = coil(4, 4, 60)
TRI = ((3,), ())
CAP = ((3, 3, 3), (((0, 1), (1, 2)), ((0, 2), (2, 1)), ((1, 1), (2, 2))))

# One deed of each word, of the shelf below.
SHELF = {"a": ("gluing", TWO), "b": ("gluing", BLOCK), "c": ("gluing", ball_of(3, 3)), "w": ("word", WORD),
         "one": ("gluing", ONE), "tri": ("gluing", TRI), "sixty": ("gluing", LONG), "band": ("gluing", BAND),
         "cap": ("gluing", CAP)}
DEEDS = (
    ("gluing", "n", TWO),
    ("word", "n", (1, 11, 3)),
    ("tile", "n", 24),
    ("lay", "n", "a", (0, 3), 2, 5),
    ("take", "n", "b", 3),
    ("ring", "n", "a", 4, 4, (1, 1)),
    ("coil", "n", 7, 3, 9),
    ("fill", "n", "w", 4, 4),
    ("glue", "n", "tri", (0, 0), "cap", (0, 0), 3),
    ("mirror", "n", "band"),
    ("dual", "n", "b"),
    ("rim", "n", "b", (0, 0)),
    ("away", "w"),
)
MADE = {
    "gluing": ("gluing", TWO), "word": ("word", (1, 11, 3)), "tile": ("gluing", one_tile(24)),
    "lay": ("gluing", laid(TWO, (0, 3), 2, 5)), "take": ("gluing", taken(BLOCK, 3)),
    "ring": ("gluing", ringed(TWO, 4, 4, (1, 1))), "coil": ("gluing", coil(7, 3, 9)),
    "mirror": ("gluing", mirrored(BAND)), "dual": ("gluing", dual(BLOCK)), "rim": ("word", rim_word(BLOCK, (0, 0))),
}


def full(many):
    """Return a shelf of so many things."""
    return {"abcdefghijklm"[k]: ("gluing", ONE) for k in range(many)}


class Things(unittest.TestCase):
    def test_gluings(self):
        for gluing in FAMILY[::9] + [SIXTY, ((24,) * 60, ())]:
            self.assertIs(is_thing(("gluing", gluing)), True)
        for value in (((3,) * 61, ()), ((2,), ()), [(3,), ()], None, WORD, (), ((3,), [])):
            self.assertIs(is_thing(("gluing", value)), False)

    def test_words(self):
        for word in ((1, 1, 1), (11,) * 16, (1, 5, 11)):
            self.assertIs(is_thing(("word", word)), True)
        for word in ((1, 1), (1,), (), (1,) * 17, (0, 1, 1), (1, 12, 1), (1, 1, -1), (1, True, 1), [1, 1, 1], "111",
                     None, (1, (1,), 1), ONE):
            self.assertIs(is_thing(("word", word)), False)

    def test_any_value(self):
        for value in STRANGE + [("tile", ONE), ("gluing",), ("word", WORD, 1), ["word", WORD], (["word"], WORD),
                                ("Word", WORD), (1, WORD), (None, ONE), ("gluing", WORD), ("word", ONE), ("", ()),
                                {"word": WORD}]:
            self.assertIs(is_thing(value), False, value)
        for thing in (("gluing", TWO), ("word", WORD)):
            for value in changes(thing, STRANGE):
                told = is_thing(value)
                self.assertIs(type(told), bool)
                if told:
                    self.assertTrue(exactly_equal(read_deed(f"{value[0]} x {thing_text(value)}"),
                                                  (value[0], "x", value[1])))

    def test_texts(self):
        for gluing in FAMILY[::9]:
            self.assertEqual(thing_text(("gluing", gluing)), gluing_text(gluing))
        self.assertEqual(thing_text(("word", (1, 11, 2))), "1 11 2")


class After(unittest.TestCase):
    def assert_raises(self, error, shelf, deed):
        kept = copy.deepcopy(shelf)
        with self.assertRaises(error) as caught:
            after(shelf, deed)
        self.assertIs(type(caught.exception), error, deed)
        self.assertTrue(exactly_equal(shelf, kept))
        return caught.exception

    def test_each_deed(self):
        for deed in DEEDS:
            for shelf in (SHELF, {**SHELF, "n": ("word", (5, 5, 5))}, {**SHELF, "n": ("gluing", TORUS)}):
                kept = copy.deepcopy(shelf)
                told = after(shelf, deed)
                self.assertTrue(exactly_equal(shelf, kept))
                self.assertIsNot(told, shelf)
                self.assertIs(type(told), dict)
                if deed[0] == "away":
                    self.assertEqual(told, {name: kept[name] for name in kept if name != "w"})
                    continue
                self.assertTrue(is_thing(told["n"]))
                self.assertEqual({name: told[name] for name in told if name != "n"},
                                 {name: kept[name] for name in kept if name != "n"})
                if deed[0] in MADE:
                    self.assertTrue(exactly_equal(told["n"], MADE[deed[0]]), deed)

    def test_fill_and_glue(self):
        told = after(SHELF, ("fill", "n", "w", 4, 4))["n"]
        self.assertEqual(told[0], "gluing")
        self.assertTrue(any(judge_fill(4, 4, WORD,
                                       ("disc", told[1], (t, i))) is None for t in range(4) for i in range(4)))
        told = after(SHELF, ("glue", "n", "tri", (0, 1), "cap", (1, 0), 3))["n"]
        self.assertEqual(told, ("gluing", glued(TRI, (0, 1), CAP, (1, 0), 3)))

    def test_the_name_of_what_is_asked_for(self):
        # A deed may put its thing in the place of the one of which it was made.
        told = after(SHELF, ("mirror", "band", "band"))
        self.assertEqual(told["band"], ("gluing", mirrored(BAND)))
        self.assertEqual(after(SHELF, ("rim", "a", "a", (0, 0)))["a"], ("word", rim_word(TWO, (0, 0))))
        self.assertEqual(after({"a": ("word", WORD)}, ("away", "a")), {})

    def test_no_deeds(self):
        for deed in STRANGE + [list(DEEDS[0]), ("gluing",), ("GLUING", "n", TWO), (["gluing"], "n", TWO),
                               (None, "n", TWO), ("gluing", "n", ((3,) * 61, ())), ("gluing", "n", WORD),
                               ("gluing", "n", "4"), ("word", "n", (1, 1)), ("word", "n", (1, 12, 1)),
                               ("word", "n", [1, 1, 1]), ("word", "n", TWO), ("word", "n", (1,) * 17),
                               ("word", "n", (1, True, 1)), ("undo",), ("away",), ("away", "w", "a"), ("mirror", "n"),
                               ("mirror", "n", "a", "b"), ("", "n", "a")]:
            self.assert_raises(BadDeed, SHELF, deed)

    def test_limits_of_integers(self):
        limits = {("tile", 2): (3, 24), ("lay", 4): (1, None), ("lay", 5): (3, 24), ("take", 3): (0, None),
                  ("ring", 3): (3, 12), ("ring", 4): (3, 12), ("coil", 2): (3, 12), ("coil", 3): (3, 12),
                  ("coil", 4): (1, 60), ("fill", 3): (3, 12), ("fill", 4): (3, 12), ("glue", 6): (3, 12)}
        for deed in DEEDS:
            for k, part in enumerate(deed):
                if type(part) is int:
                    least, greatest = limits[(deed[0], k)]
                    wrong = [least - 1, True, False, None, "4", (4,), [4], -1]
                    for value in wrong + ([] if greatest is None else [greatest + 1, 10 ** 39]):
                        self.assert_raises(BadDeed, {}, (*deed[:k], value, *deed[k + 1:]))
                    for value in (least, greatest or 10 ** 39):
                        # These have the form: names are looked at next.
                        changed = (deed[0], None, *deed[2:k], value, *deed[k + 1:])
                        self.assertIsNone(self.assert_raises(BadName, {}, changed).name)

    def test_sides(self):
        for deed in DEEDS:
            for k, part in enumerate(deed):
                if part in ((0, 3), (1, 1), (0, 0), (0, 2)) and deed[0] not in ("gluing", "word"):
                    for value in ([0, 3], (0,), (0, 0, 0), (0, -1), (-1, 0), (True, 0), (0, False), None, 3, "0.3",
                                  (0, None)):
                        self.assert_raises(BadDeed, {}, (*deed[:k], value, *deed[k + 1:]))
                    changed = (deed[0], 7, *deed[2:k], (0, 10 ** 39), *deed[k + 1:])
                    self.assertEqual(self.assert_raises(BadName, {}, changed).name, 7)

    def test_names(self):
        for deed in DEEDS:
            places = [k for k, part in enumerate(deed) if k > 0 and isinstance(part, str)]
            for k in places:
                for name in ("", "A", "a1", "abcdefghi", " a", "a ", "a.b", "_", None, 4, ["a"], {"a": []}, ("a",),
                             True):
                    error = self.assert_raises(BadName, SHELF, (*deed[:k], name, *deed[k + 1:]))
                    self.assertTrue(exactly_equal(error.name, name))
                    # The first one is told, and ahead of names that are not there.
                    worse = [name if j == k else "nowhere" if j in places else part for j, part in enumerate(deed)]
                    worse = tuple(worse)
                    self.assertTrue(exactly_equal(self.assert_raises(BadName, SHELF, worse).name, name))
            all_bad = tuple([f"Bad {k}" if k in places else part for k, part in enumerate(deed)])
            self.assertEqual(self.assert_raises(BadName, SHELF, all_bad).name, "Bad 1")
            for k in places[1:] if deed[0] != "away" else places:
                unknown = [f"x{'abcdefgh'[j]}" if j in places and j >= k else part for j, part in enumerate(deed)]
                unknown = tuple(unknown)
                self.assertEqual(self.assert_raises(UnknownName, SHELF, unknown).name, unknown[k])
        self.assertEqual(after({}, ("tile", "abcdefgh", 3)), {"abcdefgh": ("gluing", ((3,), ()))})
        self.assertEqual(after({}, ("tile", "z", 3)), {"z": ("gluing", ((3,), ()))})

    def test_unknown_names_come_ahead_of_deeds_that_cannot_be_done(self):
        error = self.assert_raises(UnknownName, SHELF, ("glue", "n", "w", (9, 9), "nowhere", (9, 9), 3))
        self.assertEqual(error.name, "nowhere")
        self.assert_raises(UnknownName, SHELF, ("fill", "n", "nowhere", 3, 3))
        self.assert_raises(UnknownName, {}, ("away", "n"))

    def assert_not_done(self, *deeds):
        for deed in deeds:
            self.assert_raises(BadDeed, SHELF, deed)

    def test_words_for_gluings_and_gluings_for_words(self):
        self.assert_not_done(("lay", "n", "w", (0, 0), 1, 4), ("take", "n", "w", 0), ("ring", "n", "w", 4, 4, (0, 0)),
                             ("fill", "n", "a", 4, 4), ("glue", "n", "w", (0, 0), "a", (0, 0), 4),
                             ("glue", "n", "a", (0, 0), "w", (0, 0), 4), ("mirror", "n", "w"), ("dual", "n", "w"),
                             ("rim", "n", "w", (0, 0)))

    def test_sides_that_are_none_or_on_no_rim(self):
        self.assert_not_done(("lay", "n", "a", (0, 1), 1, 4), ("lay", "n", "a", (2, 0), 1, 4),
                             ("lay", "n", "a", (0, 4), 1, 4), ("ring", "n", "a", 4, 4, (1, 3)),
                             ("ring", "n", "a", 4, 4, (1, 4)), ("rim", "n", "a", (0, 1)), ("rim", "n", "c", (0, 0)),
                             ("glue", "n", "a", (0, 1), "a", (0, 0), 3), ("glue", "n", "a", (0, 0), "a", (1, 3), 3),
                             ("glue", "n", "a", (0, 0), "a", (5, 3), 3))

    def test_tiles_laid_on_too_many_sides(self):
        self.assert_not_done(("lay", "n", "a", (0, 0), 4, 4), ("lay", "n", "a", (0, 0), 6, 24),
                             ("lay", "n", "one", (0, 0), 4, 24), ("lay", "n", "band", (0, 0), 2, 4),
                             ("lay", "n", "a", (0, 0), 10 ** 39, 4))
        self.assertIn("n", after(SHELF, ("lay", "n", "a", (0, 0), 5, 24)))
        self.assertIn("n", after(SHELF, ("lay", "n", "a", (0, 0), 3, 4)))

    def test_no_discs_and_no_takers(self):
        self.assert_not_done(("take", "n", "band", 0), ("take", "n", "one", 0), ("take", "n", "b", 4),
                             ("take", "n", "c", 0), ("take", "n", "a", 10 ** 39),
                             ("glue", "n", "band", (0, 0), "band", (0, 0), 4),
                             ("glue", "n", "one", (0, 0), "band", (0, 0), 4),
                             ("glue", "n", "band", (0, 0), "one", (0, 0), 4))

    def test_kinds_without_rings_and_other_kinds(self):
        self.assert_not_done(("coil", "n", 3, 5, 1), ("coil", "n", 5, 3, 9), ("coil", "n", 3, 3, 1),
                             ("ring", "n", "tri", 3, 5, (0, 0)), ("ring", "n", "tri", 4, 4, (0, 0)),
                             ("ring", "n", "b", 4, 5, (0, 0)), ("ring", "n", "a", 5, 4, (0, 0)))
        # Of the kind, but with two letters along the rim.
        self.assertEqual(rim_word(BAND, (0, 0)), (2, 2))
        self.assert_not_done(("ring", "n", "band", 4, 4, (0, 0)))

    def test_what_is_not_filled_has_no_inner_corner_or_no_word(self):
        self.assert_not_done(("fill", "n", "w", 4, 5), ("fill", "n", "w", 3, 3), ("fill", "n", "w", 7, 3),
                             ("dual", "n", "a"), ("dual", "n", "one"), ("rim", "n", "sixty", rim_sides(LONG)[0]),
                             ("rim", "n", "band", (0, 0)))

    def test_a_row_of_tiles_that_is_no_disc_cannot_be_taken_from(self):
        shelf = {"a": ("gluing", ((4, 4, 4), (((0, 1), (1, 3)),))), "f": ("gluing", FOLDED), "s": ("gluing", BALL)}
        for name in shelf:
            for t in range(4):
                self.assert_raises(BadDeed, shelf, ("take", "n", name, t))

    def test_letters_of_rims(self):
        # Round one corner stand as many triangles as the letter tells: eleven can be kept, twelve cannot.
        for many in (11, 12):
            ties = tuple([((t, 2), (t + 1, 0)) for t in range(many - 1)])
            fan = {"f": ("gluing", ((3,) * many, ties))}
            word = rim_word(((3,) * many, ties), (0, 0))
            self.assertEqual((max(word), len(word)), (many, many + 2))
            if many == 11:
                self.assertEqual(after(fan, ("rim", "n", "f", (0, 0)))["n"], ("word", word))
            else:
                self.assert_raises(BadDeed, fan, ("rim", "n", "f", (0, 0)))

    def test_lengths_of_rims(self):
        for s in (3, 16):
            self.assertEqual(after({}, ("tile", "a", s)), {"a": ("gluing", ((s,), ()))})
            self.assertEqual(after({"a": ("gluing", ((s,), ()))}, ("rim", "n", "a", (0, 0)))["n"], ("word", (1,) * s))
        self.assert_raises(BadDeed, {"a": ("gluing", ((17,), ()))}, ("rim", "n", "a", (0, 0)))

    def test_letters_of_words_that_are_to_be_filled(self):
        shelf = {"w": ("word", (1, 1, 1, 1)), "x": ("word", (1, 1, 4, 1, 1, 4))}
        self.assertEqual(after(shelf, ("fill", "n", "w", 4, 3))["n"], ("gluing", ONE))
        for q in (3, 4):
            self.assert_raises(BadDeed, shelf, ("fill", "n", "x", 4, q))
        # Four squares round a corner that is on the rim: no such corner is one of four tiles at each corner within.
        fan = ((4,) * 4, tuple([((t, 3), (t + 1, 0)) for t in range(3)]))
        shelf = {"w": ("word", rim_word(fan, (0, 0)))}
        self.assertEqual(max(shelf["w"][1]), 4)
        self.assert_raises(BadDeed, shelf, ("fill", "n", "w", 4, 4))
        self.assertEqual(len(after(shelf, ("fill", "n", "w", 4, 5))["n"][1][0]), 4)

    def test_rings_that_do_not_lie(self):
        fan = ((3,) * 5, tuple([((t, 2), (t + 1, 0)) for t in range(4)]))
        for p, q, gluing, side in ((3, 6, fan, (2, 1)), (3, 6, fan, (0, 0)), (4, 3, one_tile(4), (0, 0))):
            shelf = {"f": ("gluing", gluing), "t": ("gluing", one_tile(p))}
            if (p - 2) * (q - 2) < 4:
                self.assert_raises(BadDeed, shelf, ("ring", "n", "f", p, q, side))
                continue
            with self.assertRaises(NoRing) as caught:
                ringed(gluing, p, q, side)
            told = self.assert_raises(NoRing, shelf, ("ring", "n", "f", p, q, side))
            self.assertEqual(told.place, caught.exception.place)
            # The same is told ahead of a shelf that is full.
            self.assert_raises(NoRing, {**full(11), **shelf}, ("ring", "z", "f", p, q, side))
            self.assertEqual(after(shelf, ("ring", "n", "t", p, q, (0, 1)))["n"],
                             ("gluing", ringed(one_tile(p), p, q, (0, 1))))

    def test_rims_that_do_not_fit(self):
        told = self.assert_raises(NotGlued, SHELF, ("glue", "n", "a", (0, 0), "one", (0, 0), 4))
        self.assertIsNone(told.number)
        told = self.assert_raises(NotGlued, SHELF, ("glue", "n", "one", (0, 0), "one", (0, 3), 3))
        self.assertEqual(told.number, 0)
        told = self.assert_raises(NotGlued, SHELF, ("glue", "n", "a", (0, 0), "a", (0, 0), 3))
        self.assertEqual(told.number, 2)

    def test_sixty_tiles(self):
        self.assertEqual(len(after({}, ("coil", "n", 4, 4, 60))["n"][1][0]), 60)
        side = [side for side in rim_sides(LONG) if side[0] == 59][0]
        self.assert_raises(TooMany, SHELF, ("lay", "n", "sixty", side, 1, 4))
        less = {"f": ("gluing", coil(4, 4, 59))}
        side = rim_sides(less["f"][1])[0]
        self.assertEqual(len(after(less, ("lay", "n", "f", side, 1, 4))["n"][1][0]), 60)
        self.assert_raises(TooMany, less, ("ring", "n", "f", 4, 4, side))
        # Triangles about a corner: two at each corner of the rim, and so four when two such bunches are glued.
        for many in (30, 31):
            ties = tuple(sorted([((t, 2), (t + 1, 0)) for t in range(many - 1)] + [((0, 0), (many - 1, 2))]))
            shelf = {"f": ("gluing", ((3,) * many, ties))}
            deed = ("glue", "n", "f", (0, 1), "f", (5, 1), 4)
            if many == 30:
                self.assertEqual(len(after(shelf, deed)["n"][1][0]), 60)
            else:
                self.assert_raises(TooMany, shelf, deed)
        # About five squares by five lies a ring of 24.
        shelf = {"b": ("gluing", coil(4, 4, 25)), "c": ("gluing", coil(4, 4, 36))}
        self.assertEqual(len(after(shelf, ("ring", "n", "b", 4, 4, rim_sides(shelf["b"][1])[0]))["n"][1][0]), 49)
        self.assert_raises(TooMany, shelf, ("ring", "n", "c", 4, 4, rim_sides(shelf["c"][1])[0]))

    def test_a_dual_of_too_many_shares(self):
        for many, s in ((25, 3), (2, 3)):
            ties = [((t, 2), (t + 1, 0)) for t in range(many - 1)] + [((0, 0), (many - 1, 2))]
            shelf = {"f": ("gluing", ((s,) * many, tuple(sorted(ties))))}
            self.assert_raises(TooMany, shelf, ("dual", "n", "f"))

    def test_a_dual_of_too_many_tiles(self):
        # A coil of sixty hexagons has more inner corners than a gluing may have tiles.
        shelf = {"f": ("gluing", coil(6, 3, 60))}
        self.assertGreater(len(dual(shelf["f"][1])[0]), 60)
        self.assert_raises(TooMany, shelf, ("dual", "n", "f"))

    def test_twelve_things(self):
        self.assertEqual(len(after(full(11), ("tile", "z", 3))), 12)
        self.assertEqual(len(after(full(12), ("tile", "a", 3))), 12)
        self.assertEqual(len(after(full(12), ("away", "a"))), 11)
        for deed in (("tile", "z", 3), ("mirror", "z", "a"), ("rim", "z", "a", (0, 0)), ("word", "z", WORD),
                     ("coil", "z", 4, 4, 5)):
            self.assert_raises(TooMany, full(12), deed)

    def test_two_errors_at_once(self):
        shelf = {**full(12), "a": ("word", WORD), "b": ("gluing", LONG), "c": ("gluing", BAND)}
        self.assert_raises(BadDeed, shelf, ("tile", 7, 2))
        self.assert_raises(BadDeed, shelf, ("lay", "z", None, (0, 0), 0, 4))
        self.assert_raises(BadName, shelf, ("mirror", "z", "Z"))
        self.assert_raises(UnknownName, shelf, ("mirror", "z", "y"))
        self.assert_raises(BadDeed, shelf, ("mirror", "z", "a"))
        self.assert_raises(BadDeed, shelf, ("lay", "z", "b", (0, 0), 1, 4))
        self.assert_raises(NotGlued, shelf, ("glue", "z", "d", (0, 0), "d", (0, 0), 3))
        self.assert_raises(BadDeed, shelf, ("glue", "z", "d", (0, 0), "c", (0, 0), 3))
        self.assert_raises(BadDeed, shelf, ("dual", "z", "d"))
        self.assert_raises(BadDeed, shelf, ("coil", "z", 3, 3, 60))

    def test_any_value(self):
        for deed in DEEDS:
            for value in changes(deed, [None, True, "a", (0, 0), [1], 5, {"a": 1}]):
                try:
                    told = after(SHELF, value)
                except (BadDeed, BadName, UnknownName, NotGlued, NoRing, TooMany):
                    continue
                self.assertTrue(all(is_thing(thing) for thing in told.values()))


class Texts(unittest.TestCase):
    def test_back_and_forth(self):
        for deed in DEEDS + (("lay", "n", "a", (999999999, 0), 999999999, 24), ("take", "abcdefgh", "z", 0),
                             ("glue", "x", "y", (0, 10), "z", (12, 0), 12), ("word", "x", (1,) * 16),
                             ("gluing", "x", SIXTY), ("gluing", "gluing", ONE), ("word", "word", WORD),
                             ("away", "away")):
            text = deed_text(deed)
            self.assertIs(type(text), str)
            self.assertTrue(exactly_equal(read_deed(text), deed), text)

    def test_texts(self):
        for deed, text in ((("lay", "b", "a", (0, 3), 1, 4), "lay b a 0.3 1 4"), (("tile", "a", 5), "tile a 5"),
                           (("gluing", "a", TWO), "gluing a 4 4;0.1=1.3"), (("gluing", "a", ONE), "gluing a 4"),
                           (("word", "w", (1, 2, 11)), "word w 1 2 11"), (("take", "a", "b", 0), "take a b 0"),
                           (("ring", "b", "a", 4, 12, (0, 0)), "ring b a 4 12 0.0"),
                           (("coil", "c", 7, 3, 60), "coil c 7 3 60"), (("fill", "a", "w", 7, 3), "fill a w 7 3"),
                           (("mirror", "a", "b"), "mirror a b"),
                           (("glue", "a", "b", (0, 1), "c", (10, 2), 3), "glue a b 0.1 c 10.2 3"),
                           (("dual", "a", "b"), "dual a b"), (("rim", "a", "b", (1, 0)), "rim a b 1.0"),
                           (("away", "a"), "away a")):
            self.assertEqual(deed_text(deed), text)
            self.assertTrue(exactly_equal(read_deed(text), deed))

    def test_no_texts_of_deeds(self):
        texts = ["", " ", "undo", "tile", "tile a", "tile a 2", "tile a 25", "tile a 05", "tile a +5", "tile a -5",
                 "tile a 5 ", " tile a 5", "tile  a 5", "tile a  5", "tile a 5\n", "tile a\t5", "tile\na 5", "Tile a 5",
                 "tile A 5", "tile a1 5", "tile abcdefghi 5", "tile a 5 5", "tile a 1000000005", "tile a five",
                 "tile a 5.0", "tile a q", "tile a 1q", "tile  5", "tile a ", "lay b a 0.3 0 4", "lay b a 0.3 1 2",
                 "lay b a 03 1 4", "lay b a 0.3.1 1 4", "lay b a .3 1 4", "lay b a 0. 1 4", "lay b a 00.3 1 4",
                 "lay b a 0.03 1 4", "lay b a 0.-3 1 4", "lay b a 0,3 1 4", "lay b a 1234567890.3 1 4",
                 "lay b a 0.3 1234567890 4", "lay b a 0.3 01 4", "take a b -1", "take a b 00", "take a b 1234567890",
                 "ring b a 4 13 0.0", "ring b a 2 4 0.0", "coil c 4 4 0", "coil c 4 4 61", "coil c 4 4 060", "gluing a",
                 "gluing a ", "gluing a 2", "gluing a 4 4;0.1=0.1", "gluing a 4  4", "gluing a 4 4;", "gluing a 4 4 ",
                 "gluing  4", "gluing A 4", "gluing a 04", "gluing a " + " ".join(["3"] * 61), "word w 1 2",
                 "word w " + "1 " * 16 + "1", "word w 1 12 1", "word w 1 0 1", "word w", "word w ", "word w 1 2  1",
                 "word w 1 2 01", "word 1 2 1", "word W 1 2 1", "away", "away a b", "away A", "glue a b 0.1 c 10.2 13",
                 "glue a b 0.1 c 10.2 2", "mirror a", "mirror a b c", "rim a b", "rim a b 0", "rim a 0.0"]
        for text in texts + [value for value in STRANGE if not isinstance(value, str)] + [list("tile a 5"),
                                                                                          ("tile", "a", 5), b""]:
            with self.assertRaises(BadText) as caught:
                read_deed(text)
            self.assertTrue(exactly_equal(caught.exception.place, 0))

    def test_texts_changed_by_a_sign(self):
        for deed in DEEDS:
            text = deed_text(deed)
            for k in range(len(text) + 1):
                for sign in (" ", "0", "1", "a", ".", ";", "=", "-", "", "\n"):
                    for changed in (text[:k] + sign + text[k:], text[:k] + sign + text[k + 1:]):
                        try:
                            told = read_deed(changed)
                        except BadText as error:
                            self.assertEqual(error.place, 0)
                        else:
                            self.assertEqual(deed_text(told), changed)
                            with self.subTest(text=changed):
                                try:
                                    after(SHELF, told)
                                except BadName:
                                    self.fail("a name that is none was read")
                                except (BadDeed, UnknownName, NotGlued, NoRing, TooMany):
                                    pass

    def test_what_is_read_has_the_form_of_a_deed(self):
        # Of an empty shelf a deed of the right form asks for names, or is done.
        for deed in DEEDS:
            try:
                after({}, read_deed(deed_text(deed)))
            except UnknownName:
                pass

    def test_word_text_of_things(self):
        self.assertEqual(deed_text(("word", "w", WORD)), "word w " + word_text(WORD))
        self.assertEqual(deed_text(("gluing", "w", BLOCK)), "gluing w " + gluing_text(BLOCK))


if __name__ == "__main__":
    unittest.main()

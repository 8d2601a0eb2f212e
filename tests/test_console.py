"""A console and its lines."""

import copy
import unittest

from tests.helpers import BAND, BLOCK, STRANGE, exactly_equal
from tests.test_house import told_of
from whatrims.console import Console
from whatrims.deeds import deed_text, thing_text
from whatrims.gluings import one_tile
from whatrims.house import House
from whatrims.pieces import counts
from whatrims.rims import rim_word
from whatrims.texts import gluing_text, word_text

WORD = (1, 2) * 4
FILLED = ("tile a 4", "gluing b " + gluing_text(BLOCK), "word w 1 2 1 1 2 1", "gluing band " + gluing_text(BAND),
          "tile long 24", "word v 1 1 1", "word e 1 1 1 1 1 1 1 1 1 1 1 1", "gluing two 3 3")


def console_with(lines=FILLED):
    """Return a console to which these lines were said."""
    console = Console()
    for line in lines:
        console.say(line)
    return console


class Lines(unittest.TestCase):
    def assert_nothing(self, console, line, answer):
        kept = copy.deepcopy(told_of(console.house()))
        self.assertEqual(console.say(line), answer, line)
        self.assertTrue(exactly_equal(told_of(console.house()), kept), line)

    def test_the_house(self):
        console, other = Console(), Console()
        house = console.house()
        self.assertIs(type(house), House)
        self.assertEqual(told_of(house), told_of(House()))
        console.say("tile a 4")
        console.say("undo")
        console.say("nothing")
        self.assertIs(console.house(), house)
        self.assertIsNot(other.house(), house)
        self.assertEqual(told_of(other.house()), told_of(House()))
        # What is done in the house shows at the console.
        house.do(("tile", "z", 5))
        self.assertEqual(console.say("show"), "z")

    def test_deeds(self):
        console, house = Console(), House()
        for deed in (("tile", "a", 4), ("lay", "b", "a", (0, 1), 1, 4), ("rim", "w", "b", (0, 0)),
                     ("fill", "f", "w", 4, 4), ("mirror", "m", "b"), ("ring", "r", "b", 4, 4, (0, 0)),
                     ("take", "b", "b", 1), ("gluing", "g", BLOCK), ("dual", "d", "r"), ("coil", "c", 7, 3, 8),
                     ("word", "w", WORD), ("away", "c"), ("tile", "t", 3),
                     ("gluing", "cap", ((3, 3, 3), (((0, 1), (1, 2)), ((0, 2), (2, 1)), ((1, 1), (2, 2))))),
                     ("glue", "ball", "t", (0, 0), "cap", (0, 0), 3)):
            self.assertEqual(console.say(deed_text(deed)), str(house.do(deed)))
        self.assertTrue(exactly_equal(told_of(console.house()), told_of(house)))

    def test_moves(self):
        console = console_with(("tile a 4", "tile b 5"))
        for line, answer in (("undo", "1"), ("redo", "2"), ("branch side", "2"), ("go side", "2"), ("tile c 6", "3"),
                             ("go main", "2"), ("tile d 7", "4"), ("merge side", "5"), ("undo", "4"), ("undo", "2"),
                             ("undo", "1"), ("undo", "0"), ("redo", "1")):
            self.assertEqual(console.say(line), answer, line)
        self.assertEqual(console.house().branches(), ["main", "side"])
        console = Console()
        for line in ("undo", "redo", "go side", "merge side", "merge main", "branch main"):
            self.assert_nothing(console, line, "refused")
        for name in ("a", "b", "c", "d", "e"):
            self.assertEqual(console.say("branch " + name), "0")
        self.assert_nothing(console, "branch f", "refused")

    def test_merges_that_clash(self):
        console = console_with(("branch side", "tile a 4", "go side", "tile a 5"))
        self.assert_nothing(console, "merge main", "refused")

    def test_show(self):
        self.assertEqual(Console().say("show"), "")
        console = console_with()
        self.assertEqual(console.say("show"), "a b band e long two v w")
        for name, thing in console.house().shelf().items():
            self.assert_nothing(console, "show " + name, thing_text(thing))
        self.assert_nothing(console, "show z", "refused")

    def test_rim_and_counts(self):
        console = console_with()
        self.assert_nothing(console, "rim b 0.0", word_text(rim_word(BLOCK, (0, 0))))
        self.assert_nothing(console, "rim b 1.2", "refused")
        # However long or short it is.
        self.assert_nothing(console, "rim band 1.2", "2 2")
        self.assert_nothing(console, "rim long 0.23", " ".join(["1"] * 24))
        for line in ("rim b 0.1", "rim b 4.0", "rim b 0.4", "rim z 0.0", "rim w 0.0", "rim b 999999999.999999999"):
            self.assert_nothing(console, line, "refused")
        for name, gluing in (("a", one_tile(4)), ("b", BLOCK), ("band", BAND), ("two", ((3, 3), ()))):
            self.assert_nothing(console, "counts " + name, " ".join([str(number) for number in counts(gluing)]))
        for line in ("counts w", "counts z"):
            self.assert_nothing(console, line, "refused")

    def test_lines_that_ask(self):
        console = console_with()
        for line, answer in (("size 4 4 w", "2"), ("size 4 4 v", "none"), ("size 3 3 v", "1"), ("size 7 3 e", "6"),
                             ("fill 4 4 w", "disc"), ("fill 7 3 e", "barred"), ("fill 3 3 v", "disc"),
                             ("like a a", "like"), ("like a b", "sizes"), ("kind 4 4 b", "yes"),
                             ("kind 4 5 b", "inner"), ("kind 3 6 b", "tile"), ("kind 4 3 band", "yes"),
                             ("kind 4 12 a", "yes"), ("layings b", "4"), ("layings long", "1")):
            self.assert_nothing(console, line, answer)
        for line in ("size 4 4 a", "size 4 4 z", "fill 4 4 b", "fill 4 4 z", "like a w", "like a z", "like a two",
                     "kind 4 4 w", "kind 4 4 z", "layings band", "layings w", "layings z"):
            self.assert_nothing(console, line, "refused")
        console.say("word big 1 1 5")
        for line in ("size 4 4 big", "fill 4 5 big"):
            self.assert_nothing(console, line, "refused")
        console.say("gluing bent 4 4 4;0.1=1.3 1.0=2.2")
        console.say("gluing row 4 4 4;0.1=1.3 1.1=2.3")
        console.say("gluing disc 4 4;0.1=1.3")
        self.assert_nothing(console, "like row bent", "forms")
        self.assert_nothing(console, "like disc band", "rims")
        console.say("gluing row 3 3 3 3;0.2=1.0 1.2=2.0 2.2=3.0")
        self.assert_nothing(console, "kind 3 4 row", "rim")

    def test_keep_and_today(self):
        console = console_with()
        lines = {"s": "size 4 4 w", "n": "size 4 4 v", "f": "fill 4 4 w", "e": "fill 7 3 e", "l": "like a a",
                 "k": "kind 4 4 b", "y": "layings b"}
        for label, line in lines.items():
            self.assertEqual(console.say(f"keep {label} {line}"), console.say(line))
            self.assertEqual(console.say("today " + label), "right")
        house = console.house()
        self.assertEqual(house.labels(), sorted(lines))
        self.assertEqual(house.paper("s"), (("size", 4, 4, "w"), ("size", 2, 0), 8))
        self.assertEqual(house.paper("l")[0], ("like", "a", "a"))
        self.assertEqual(house.paper("y")[0], ("layings", "b"))
        for line in ("keep s size 4 4 w", "keep x size 4 4 z", "keep x fill 4 4 a", "keep x like a w",
                     "keep x layings band", "today x"):
            self.assert_nothing(console, line, "refused")
        console.say("word w 1 2 1 2 1 2 1 2")
        console.say("tile a 5")
        console.say("away b")
        console.say("word e 1 1 1 1 1 1 1 1")
        self.assertEqual([console.say("today " + label) for label in "snflkye"],
                         ["answer", "right", "word", "right", "gone", "gone", "lacks"])
        console.say("keep g layings a")
        self.assert_nothing(console, "keep h layings a", "refused")

    def test_today_of_an_answer_of_another_form(self):
        console = console_with(("tile a 4", "tile b 4", "keep l like a b", "gluing a 4 4;0.1=1.3", "mirror b a"))
        self.assertEqual(console.say("today l"), "form")
        console.say("keep y layings a")
        console.say("gluing a 4 4;0.1=1.3 0.3=1.1")
        self.assertEqual(console.say("today y"), "gone")
        console.say("gluing a 4 3;0.1=1.2")
        self.assertEqual(console.say("today y"), "unlike")

    def test_deeds_that_are_refused(self):
        console = console_with()
        for line in ("away z", "mirror x z", "mirror x w", "lay x a 0.0 4 4", "lay x b 0.1 1 4", "take x a 0",
                     "take x b 9", "rim x long 0.0", "rim x band 0.0", "coil x 3 3 4", "ring x a 4 5 0.9",
                     "fill x v 4 4", "fill x w 7 12", "glue x a 0.0 v 0.0 4", "glue x a 0.0 long 0.0 4", "dual x a",
                     "ring x band 4 4 0.0"):
            self.assert_nothing(console, line, "refused")
        for name in "cdfg":
            console.say(f"tile {name} 3")
        self.assert_nothing(console, "tile h 3", "refused")
        self.assertEqual(console.say("tile g 4"), "13")

    def test_no_lines(self):
        console = console_with()
        for line in [value for value in STRANGE if value != "ab"] + ["ab", "stay", "Undo", "undo ", " undo",
                                                                     "undo main", "undo\n", "redo 1", "branch",
                                                                     "branch A", "branch a b", "branch ",
                                                                     "branch abcdefghi", "go", "go 1", "go main main",
                                                                     "merge", "merge Main", "show a b", "show A",
                                                                     "show  a", "show ", "show\ta", "rim", "rim b",
                                                                     "rim b 0", "rim b 00.0", "rim b 0.00",
                                                                     "rim b 0.0.0", "rim B 0.0", "rim b -1.0",
                                                                     "rim b 1234567890.0", "rim b 0.0 ", "rim x b",
                                                                     "rim x b 0", "counts", "counts B", "counts a b",
                                                                     "size", "size 4 4", "size 4 w", "size 2 4 w",
                                                                     "size 4 13 w", "size 04 4 w", "size 4 4 W",
                                                                     "size 4 4 w w", "size four 4 w", "size +4 4 w",
                                                                     "fill 4 4", "fill 4 4 W", "fill 4 2 w",
                                                                     "fill w 4 4", "fill x w 4 13", "like a",
                                                                     "like a b c", "like a B", "kind 4 4", "kind 4 4 B",
                                                                     "kind 2 4 b", "kind 4 4 b b", "layings",
                                                                     "layings B", "layings a b", "keep", "keep k",
                                                                     "keep k ", "keep K size 4 4 w",
                                                                     "keep k size 4 4 W", "keep k size 4 13 w",
                                                                     "keep k show", "keep k undo", "keep k tile a 4",
                                                                     "keep k counts b", "keep k keep l size 4 4 w",
                                                                     "keep k today k", "keep  size 4 4 w",
                                                                     "keep size 4 4 w", "keep k  size 4 4 w",
                                                                     "keep k rim b 0.0", "today", "today K",
                                                                     "today k k", "tile a 2", "tile A 4", "tile a 4 ",
                                                                     "tile a 25", "lay b a 0.3 0 4", "gluing a 2",
                                                                     "gluing a 4;", "word w 1 1", "word w 1 12 1",
                                                                     "coil c 4 4 61", "ring b a 4 13 0.0",
                                                                     "do tile a 4", "size 4 4 w\n", "number", "labels",
                                                                     "ask size 4 4 w", "paper s", "present", "shelf",
                                                                     "elders 1", "common 1 2"]:
            self.assert_nothing(console, line, "what")

    def test_long_lines(self):
        console = Console()
        text = gluing_text(((3,) * 60, tuple([((t, 2), (t + 1, 0)) for t in range(59)])))
        self.assertEqual((console.say("gluing g " + text), console.say("show g")), ("1", text))
        self.assert_nothing(console, "gluing g " + " ".join(["3"] * 990), "what")
        self.assert_nothing(console, "x" * 2000, "what")
        self.assert_nothing(console, " " * 2000, "what")

    def test_answers_are_strings(self):
        console = console_with()
        for line in FILLED + ("undo", "redo", "show", "show a", "counts b", "size 4 4 w", "today k", None, 4):
            self.assertIs(type(console.say(line)), str)
        self.assertEqual(console.say("show two"), "3 3")



if __name__ == "__main__":
    unittest.main()

"""A house of shelves: moments, branches, questions and papers."""

import copy
import random
import unittest

from tests.helpers import APART, BAND, BLOCK, ONE, STRANGE, TWO, exactly_equal
from whatrims.deeds import after
from whatrims.drawn import size_of
from whatrims.errors import (BadDeed, BadName, Clash, Missing, NoMoment, NothingDone, RimError, TooMany, UnknownName)
from whatrims.filling import fill, judge_fill
from whatrims.forms import judge_likening, likening
from whatrims.gluings import mirrored
from whatrims.house import House
from whatrims.pieces import kind_fault
from whatrims.rims import rim_word
from whatrims.taking import judge_layings, layings_of

WORD, RIM_OF_TWO = (1, 2) * 4, (1, 2, 1, 1, 2, 1)
BENT, ROW = ((4, 4, 4), (((0, 1), (1, 3)), ((1, 0), (2, 2)))), ((4, 4, 4), (((0, 1), (1, 3)), ((1, 1), (2, 3))))
NO_NAMES = STRANGE + ["A", "a b", "abcdefghi", "a1", "a.b", ["a"], ("a",), {"a": 1}, [["main"]]]


def told_of(house):
    """Return all that a house tells of itself."""
    moments = []
    while True:
        try:
            moments.append((house.shelf_at(len(moments)), house.elders(len(moments))))
        except NoMoment:
            break
    papers = [(label, house.paper(label)) for label in house.labels()]
    return (house.number(), house.shelf(), moments, house.branches(), house.present(), papers)


def house_with(**things):
    """Return a house whose present shelf has these gluings and words."""
    house = House()
    for name, value in things.items():
        house.do(("word" if isinstance(value[0], int) else "gluing", name, value))
    return house


class Case(unittest.TestCase):
    def assert_refused(self, error, house, call, *passed):
        """Assert that the call raises this error, and that nothing changes."""
        kept = copy.deepcopy(told_of(house))
        with self.assertRaises(error) as caught:
            call(*passed)
        self.assertIs(type(caught.exception), error)
        self.assertTrue(exactly_equal(told_of(house), kept))
        return caught.exception


class Moments(Case):
    def test_the_beginning(self):
        self.assertTrue(exactly_equal(told_of(House()), (0, {}, [({}, ())], ["main"], "main", [])))

    def test_do(self):
        house = House()
        self.assertEqual(house.do(("tile", "a", 4)), 1)
        self.assertEqual(house.do(("rim", "w", "a", (0, 0))), 2)
        self.assertEqual((house.number(), house.elders(2), house.elders(1), house.elders(0)), (2, (1,), (0,), ()))
        self.assertEqual(house.shelf(), {"a": ("gluing", ONE), "w": ("word", (1,) * 4)})
        self.assertEqual([house.shelf_at(0), house.shelf_at(1)], [{}, {"a": ("gluing", ONE)}])
        for deed, error in ((("tile", "a", 2), BadDeed), (None, BadDeed), (["tile", "a", 4], BadDeed),
                            (("tile", "A", 4), BadName), (("mirror", "x", "y"), UnknownName),
                            (("mirror", "x", "w"), BadDeed)):
            self.assert_refused(error, house, house.do, deed)

    def test_deeds_are_done_as_on_shelves(self):
        house, shelf = House(), {}
        for deed in (("gluing", "a", TWO), ("lay", "b", "a", (0, 3), 1, 4), ("rim", "w", "b", (0, 0)),
                     ("fill", "f", "w", 4, 4), ("mirror", "b", "f"), ("ring", "r", "a", 4, 4, (0, 0)),
                     ("take", "a", "b", 2), ("away", "b"), ("dual", "d", "r"), ("coil", "c", 7, 3, 8),
                     ("word", "w", WORD)):
            shelf = after(shelf, deed)
            house.do(deed)
            self.assertTrue(exactly_equal(house.shelf(), shelf))

    def test_numbers_of_moments(self):
        house = house_with(a=ONE)
        for number in STRANGE + [2, -1, 200, True, False, None, "0", (0,), [0], {0: 1}, 10 ** 39]:
            if exactly_equal(number, 0) or exactly_equal(number, 1):
                continue
            for call in (house.shelf_at, house.elders):
                error = self.assert_refused(NoMoment, house, call, number)
                self.assertTrue(exactly_equal(error.number, number))

    def test_undo_and_redo(self):
        house = house_with(a=ONE, b=TWO, c=BLOCK)
        self.assert_refused(NothingDone, house, house.redo)
        self.assertEqual([house.undo(), house.undo(), house.redo(), house.undo(), house.undo()], [2, 1, 2, 1, 0])
        self.assert_refused(NothingDone, house, house.undo)
        self.assertEqual([house.redo(), house.redo(), house.redo()], [1, 2, 3])
        self.assert_refused(NothingDone, house, house.redo)
        self.assertEqual([house.undo(), house.undo()], [2, 1])
        # What is refused does not empty the list of undone moments, what is done does.
        self.assert_refused(BadDeed, house, house.do, None)
        self.assertEqual([house.redo(), house.undo(), house.do(("tile", "z", 3))], [2, 1, 4])
        self.assert_refused(NothingDone, house, house.redo)
        self.assertEqual((house.elders(4), house.undo(), house.undo(), house.redo(), house.redo()), ((1,), 1, 0, 1, 4))

    def test_undone_moments_of_each_branch(self):
        house = house_with(a=ONE, b=TWO)
        house.undo()
        house.branch("side")
        self.assertEqual(house.go("side"), 1)
        self.assert_refused(NothingDone, house, house.redo)
        self.assertEqual([house.do(("tile", "c", 5)), house.undo(), house.undo()], [3, 1, 0])
        self.assertEqual([house.go("main"), house.redo(), house.go("side"), house.redo(), house.redo()],
                         [1, 2, 0, 1, 3])
        house.undo()
        house.do(("tile", "d", 5))
        self.assertEqual([house.go("main"), house.undo(), house.go("side")], [2, 1, 4])
        self.assert_refused(NothingDone, house, house.redo)
        self.assertEqual([house.go("main"), house.redo()], [1, 2])

    def test_two_hundred_moments(self):
        house = House()
        house.branch("side")
        for number in range(1, 200):
            self.assertEqual(house.do(("tile", "a", 3 + number % 20)), number)
        self.assert_refused(TooMany, house, house.do, ("tile", "a", 4))
        # Behind all else.
        self.assert_refused(BadDeed, house, house.do, ("tile", "a", 2))
        self.assert_refused(UnknownName, house, house.do, ("away", "b"))
        self.assert_refused(NothingDone, house, house.merge, "side")
        self.assertEqual([house.undo(), house.redo()], [198, 199])
        house.go("side")
        self.assert_refused(TooMany, house, house.merge, "main")
        self.assert_refused(UnknownName, house, house.merge, "other")
        self.assertEqual([house.go("main"), house.undo()], [199, 198])
        self.assert_refused(TooMany, house, house.do, ("tile", "a", 4))
        self.assertEqual(house.redo(), 199)


class Branches(Case):
    def test_branch_and_go(self):
        house = house_with(a=ONE)
        self.assertIsNone(house.branch("side"))
        self.assertEqual((house.present(), house.branches(), house.number()), ("main", ["main", "side"], 1))
        self.assertEqual((house.do(("tile", "b", 3)), house.go("side"), house.present()), (2, 1, "side"))
        self.assertEqual(house.shelf(), {"a": ("gluing", ONE)})
        house.branch("another")
        self.assertEqual(house.branches(), ["main", "side", "another"])
        self.assertEqual([house.go("another"), house.go("another"), house.go("main")], [1, 1, 2])

    def test_names_of_branches(self):
        house = house_with(a=ONE)
        house.branch("side")
        for name in NO_NAMES + ["main", "side"]:
            if not exactly_equal(name, "ab"):
                error = self.assert_refused(BadName, house, house.branch, name)
                self.assertTrue(exactly_equal(error.name, name))
        for name in NO_NAMES + ["other", "a"]:
            for call in (house.go, house.merge):
                error = self.assert_refused(UnknownName, house, call, name)
                self.assertTrue(exactly_equal(error.name, name))

    def test_errors_keep_copies(self):
        house = house_with(a=ONE)
        for call in (house.branch, house.go, house.merge, house.paper, house.today, lambda name: house.keep(name, None),
                     lambda name: house.do(("tile", name, 4)), lambda name: house.ask(("layings", name))):
            name = ["x", {"y": [1]}, ([2],)]
            kept = copy.deepcopy(name)
            with self.assertRaises((BadName, UnknownName)) as caught:
                call(name)
            name[1]["y"].append(2)
            name[2][0].clear()
            self.assertTrue(exactly_equal(caught.exception.name, kept))

    def test_six_branches(self):
        house = House()
        for name in ("a", "b", "c", "d", "e"):
            house.branch(name)
        self.assert_refused(TooMany, house, house.branch, "f")
        self.assert_refused(BadName, house, house.branch, "a")
        self.assert_refused(BadName, house, house.branch, "F")
        self.assertEqual(house.branches(), ["main", "a", "b", "c", "d", "e"])

    def test_merge(self):
        house = house_with(a=ONE, b=TWO, c=BLOCK)
        house.branch("side")
        house.do(("tile", "a", 5))
        house.do(("tile", "n", 6))
        house.go("side")
        house.do(("away", "b"))
        house.do(("tile", "m", 7))
        house.do(("mirror", "c", "c"))
        kept = house.shelf()
        house.go("main")
        self.assertEqual((house.common(5, 8), house.merge("side"), house.elders(9)), (3, 9, (5, 8)))
        self.assertEqual(house.shelf(), {"a": ("gluing", ((5,), ())), "n": ("gluing", ((6,), ())),
                                         "m": ("gluing", ((7,), ())), "c": ("gluing", mirrored(BLOCK))})
        house.go("side")
        self.assertEqual((house.number(), house.shelf()), (8, kept))
        # The other branch is behind the present moment now: nothing is to be merged there.
        house.go("main")
        self.assert_refused(NothingDone, house, house.merge, "side")
        # The present moment is the common one: still a new moment comes.
        house.go("side")
        self.assertEqual((house.common(8, 9), house.merge("main"), house.elders(10)), (8, 10, (8, 9)))
        self.assertEqual(house.shelf(), house.shelf_at(9))
        # Undone goes to the first elder.
        self.assertEqual((house.undo(), house.redo()), (8, 10))

    def test_nothing_to_merge(self):
        house = house_with(a=ONE)
        house.branch("side")
        self.assert_refused(NothingDone, house, house.merge, "side")
        self.assert_refused(NothingDone, house, house.merge, "main")
        house.do(("tile", "b", 3))
        self.assert_refused(NothingDone, house, house.merge, "side")
        house.go("side")
        self.assertEqual((house.merge("main"), house.elders(3), house.shelf()), (3, (1, 2), house.shelf_at(2)))

    def test_merge_empties_the_undone_moments(self):
        house = house_with(a=ONE)
        house.branch("side")
        house.do(("tile", "b", 3))
        house.undo()
        house.go("side")
        house.do(("tile", "c", 3))
        house.go("main")
        house.merge("side")
        self.assert_refused(NothingDone, house, house.redo)

    def clash_house(self, main, side):
        """Return a house with two branches in which these deeds were done."""
        house = house_with(a=ONE, b=TWO, c=BLOCK)
        house.branch("side")
        for deed in main:
            house.do(deed)
        house.go("side")
        for deed in side:
            house.do(deed)
        house.go("main")
        return house

    def test_clashes(self):
        tile = ("tile", "a", 5)
        for main, side, names in (([tile], [("tile", "a", 6)], ("a",)), ([tile], [("away", "a")], ("a",)),
                                  ([("away", "a")], [tile], ("a",)), ([("tile", "n", 5)], [("tile", "n", 6)], ("n",)),
                                  ([("tile", "n", 5), tile, ("away", "c")],
                                   [("tile", "c", 3), ("tile", "n", 6), ("tile", "a", 7)], ("a", "c", "n")),
                                  ([tile, ("tile", "b", 3)], [tile, ("tile", "b", 4)], ("b",)),
                                  ([("word", "a", (1, 1, 1))], [("tile", "a", 3)], ("a",))):
            house = self.clash_house(main, side)
            self.assertTrue(exactly_equal(self.assert_refused(Clash, house, house.merge, "side").names, names))

    def test_no_clashes(self):
        tile = ("tile", "a", 5)
        for main, side in (([tile], [tile]), ([("away", "a")], [("away", "a")]), ([tile], [("tile", "b", 6)]),
                           ([tile, ("gluing", "a", ONE)], [("tile", "a", 6)]),
                           ([("tile", "a", 6)], [tile, ("gluing", "a", ONE)]),
                           ([("tile", "n", 3), ("away", "n")], [("tile", "n", 4)]),
                           ([("tile", "n", 4)], [("tile", "n", 4)])):
            house = self.clash_house(main, side)
            present, other, base = house.shelf(), house.shelf_at(3 + len(main) + len(side)), house.shelf_at(3)
            house.merge("side")
            due = dict(present)
            for name in {**base, **other}:
                if base.get(name) != other.get(name):
                    due.pop(name, None)
                    if name in other:
                        due[name] = other[name]
            self.assertEqual(house.shelf(), due)

    def test_too_many_names(self):
        for many in (6, 7):
            house = House()
            house.branch("side")
            for name in "abcdef":
                house.do(("tile", name, 3))
            house.go("side")
            for name in "uvwxyzt"[:many]:
                house.do(("tile", name, 4))
            if many == 6:
                house.merge("main")
                self.assertEqual(len(house.shelf()), 12)
            else:
                self.assert_refused(TooMany, house, house.merge, "main")
                # A clash is told ahead of it.
                house.do(("tile", "a", 5))
                self.assertEqual(self.assert_refused(Clash, house, house.merge, "main").names, ("a",))

    def test_merges_of_merges(self):
        house = house_with(a=ONE)
        house.branch("b")
        house.branch("c")
        house.do(("tile", "m", 3))
        house.go("b")
        house.do(("tile", "n", 4))
        house.go("c")
        house.do(("tile", "o", 5))
        house.merge("b")
        house.go("main")
        self.assertEqual((house.merge("c"), house.elders(6)), (6, (2, 5)))
        self.assertEqual(sorted(house.shelf()), ["a", "m", "n", "o"])
        self.assertEqual([house.common(6, 3), house.common(5, 2), house.common(4, 3), house.common(6, 6),
                          house.common(6, 5), house.common(0, 6), house.common(5, 6),
                          house.common(3, 4)], [3, 1, 1, 6, 5, 0, 5, 1])
        house.go("b")
        house.do(("tile", "a", 9))
        house.go("main")
        # The common moment is the one that b had when it was merged, so only what came later counts.
        self.assertEqual(house.common(6, 7), 3)
        house.merge("b")
        self.assertEqual(house.shelf()["a"], ("gluing", ((9,), ())))

    def test_common_moments_by_all_that_is_behind(self):
        for seed in range(12):
            house = self.wandered(seed, 60)
            many = len(told_of(house)[2])
            behind = []
            for number in range(many):
                behind.append({number}.union(*[behind[elder] for elder in house.elders(number)]))
            for one in range(0, many, 3):
                for other in range(many):
                    self.assertEqual(house.common(one, other), max(behind[one] & behind[other]))

    def wandered(self, seed, steps):
        """Return a house after steps of all sorts, checked against a slow retelling of the points."""
        chance = random.Random(seed)
        house = House()
        shelves, elders, at, undone, present = [{}], [()], {"main": 0}, {"main": []}, "main"
        for step in range(steps):
            word = chance.choice(["do", "do", "do", "undo", "redo", "branch", "go", "merge"])
            name = chance.choice(["main", "x", "y", "z"])
            number = at[present]
            if word == "do":
                deed = chance.choice([("tile", chance.choice("abcd"), chance.randint(3, 5)),
                                      ("away", chance.choice("abcd"))])
                if deed[0] == "away" and deed[1] not in shelves[number]:
                    self.assert_refused(UnknownName, house, house.do, deed)
                else:
                    shelves.append(after(shelves[number], deed))
                    elders.append((number,))
                    at[present], undone[present] = len(shelves) - 1, []
                    self.assertEqual(house.do(deed), at[present])
            elif word == "undo" and elders[number]:
                undone[present].append(number)
                at[present] = elders[number][0]
                self.assertEqual(house.undo(), at[present])
            elif word == "redo" and undone[present]:
                at[present] = undone[present].pop()
                self.assertEqual(house.redo(), at[present])
            elif word in ("undo", "redo"):
                self.assert_refused(NothingDone, house, getattr(house, word))
            elif word == "branch" and name not in at:
                at[name], undone[name] = number, []
                self.assertIsNone(house.branch(name))
            elif word == "branch":
                self.assert_refused(BadName, house, house.branch, name)
            elif name not in at:
                self.assert_refused(UnknownName, house, getattr(house, word), name)
            elif word == "go":
                present = name
                self.assertEqual(house.go(name), at[name])
            else:
                self.merge(house, name, number, at, shelves, elders, undone, present)
            self.assertEqual(house.shelf(), shelves[at[present]])
            self.assertEqual((house.number(), house.present(), house.branches()), (at[present], present, list(at)))
        self.assertEqual([house.shelf_at(k) for k in range(len(shelves))], shelves)
        return house

    def merge(self, house, name, number, at, shelves, elders, undone, present):
        other = at[name]
        behind = []
        for k in range(len(elders)):
            behind.append({k}.union(*[behind[elder] for elder in elders[k]]))
        base = max(behind[number] & behind[other])
        if base == other:
            self.assert_refused(NothingDone, house, house.merge, name)
            return
        ours, theirs, old = shelves[number], shelves[other], shelves[base]
        changed = [key for key in "abcd" if theirs.get(key) != old.get(key)]
        clashes = [key for key in changed if ours.get(key) not in (old.get(key), theirs.get(key))]
        if clashes:
            self.assertEqual(self.assert_refused(Clash, house, house.merge, name).names, tuple(clashes))
            return
        shelf = {key: ours[key] for key in ours if key not in changed}
        shelf.update({key: theirs[key] for key in changed if key in theirs})
        shelves.append(shelf)
        elders.append((number, other))
        at[present], undone[present] = len(shelves) - 1, []
        self.assertEqual(house.merge(name), at[present])


class Questions(Case):
    def house(self):
        return house_with(a=TWO, b=BLOCK, c=BAND, d=APART, e=mirrored(BENT), f=BENT, w=WORD, x=(1, 1, 4, 1),
                          y=(1, 1, 1))

    def test_each_question(self):
        house = self.house()
        for question, due in ((("size", 4, 4, "w"), size_of(4, 4, WORD)),
                              (("size", 4, 4, "y"), size_of(4, 4, (1, 1, 1))), (("fill", 4, 4, "w"), None),
                              (("fill", 7, 3, "y"), fill(7, 3, (1, 1, 1))), (("kind", 4, 4, "b"), None),
                              (("kind", 4, 5, "b"), kind_fault(BLOCK, 4, 5)),
                              (("kind", 4, 4, "d"), kind_fault(APART, 4, 4)),
                              (("kind", 12, 3, "c"), kind_fault(BAND, 12, 3)),
                              (("like", "a", "c"), likening(TWO, BAND)), (("like", "a", "a"), likening(TWO, TWO)),
                              (("like", "e", "f"), likening(mirrored(BENT), BENT)),
                              (("layings", "b"), layings_of(BLOCK))):
            told = house.ask(question)
            if question[:2] == ("fill", 4):
                self.assertIsNone(judge_fill(4, 4, WORD, told))
            else:
                self.assertTrue(exactly_equal(told, due), question)
        self.assertIsNone(house.ask(("kind", 4, 4, "b")))

    def test_no_questions(self):
        house = self.house()
        for question in STRANGE + [("size", 4, 4), ("size", 4, 4, "w", 1), ("size", 2, 4, "w"), ("size", 4, 13, "w"),
                                   ("size", True, 4, "w"), ("size", 4, "4", "w"), ["size", 4, 4, "w"],
                                   ("Size", 4, 4, "w"), (["size"], 4, 4, "w"), ("fill", 4, 2, "w"),
                                   ("fill", 13, 4, "w"), ("fill", 4, None, "w"), ("kind", 4, 4), ("kind", 2, 4, "a"),
                                   ("like", "a"), ("like", "a", "b", "c"), ("layings",), ("layings", "a", "b"),
                                   ("tile", "a", 4), ("like", 4, 4, "a"), (), ("size", 4, 2, 7)]:
            self.assert_refused(BadDeed, house, house.ask, question)
            self.assert_refused(BadDeed, house, house.keep, "k", question)

    def test_names(self):
        house = self.house()
        for question, places in ((("size", 4, 4, "w"), (3,)), (("fill", 4, 4, "w"), (3,)), (("kind", 4, 4, "a"), (3,)),
                                 (("like", "a", "b"), (1, 2)), (("layings", "a"), (1,))):
            for k in places:
                for name in NO_NAMES:
                    if not exactly_equal(name, "ab"):
                        error = self.assert_refused(BadName, house, house.ask, (*question[:k], name, *question[k + 1:]))
                        self.assertTrue(exactly_equal(error.name, name))
                error = self.assert_refused(UnknownName, house, house.ask,
                                            (*question[:k], "nowhere", *question[k + 1:]))
                self.assertEqual(error.name, "nowhere")
        self.assertEqual(self.assert_refused(BadName, house, house.ask, ("like", "nowhere", 7)).name, 7)
        self.assertEqual(self.assert_refused(BadName, house, house.ask, ("like", None, 7)).name, None)
        self.assertEqual(self.assert_refused(UnknownName, house, house.ask, ("like", "here", "there")).name, "here")
        self.assertEqual(self.assert_refused(UnknownName, house, house.ask, ("like", "w", "there")).name, "there")

    def test_things_that_are_not_as_they_must_be(self):
        house = self.house()
        for question in (("size", 4, 4, "a"), ("fill", 4, 4, "a"), ("kind", 4, 4, "w"), ("like", "a", "w"),
                         ("like", "w", "a"), ("layings", "w"), ("size", 4, 4, "x"), ("fill", 4, 4, "x"),
                         ("fill", 3, 3, "x"), ("like", "d", "a"), ("like", "a", "d"), ("layings", "c"),
                         ("layings", "d")):
            self.assert_refused(BadDeed, house, house.ask, question)
        self.assertEqual(house.ask(("size", 4, 5, "x")), size_of(4, 5, (1, 1, 4, 1)))

    def test_of_the_present_shelf(self):
        house = house_with(w=WORD)
        house.branch("side")
        house.do(("word", "w", RIM_OF_TWO))
        self.assertEqual(house.ask(("size", 4, 4, "w")), ("size", 2, 0))
        house.go("side")
        self.assertEqual(house.ask(("size", 4, 4, "w")), ("size", 4, 1))
        house.undo()
        self.assert_refused(UnknownName, house, house.ask, ("size", 4, 4, "w"))


class Papers(Case):
    def house(self):
        return house_with(a=TWO, b=BLOCK, w=RIM_OF_TWO)

    def test_keep_and_paper(self):
        house = self.house()
        question = ("size", 4, 4, "w")
        self.assertEqual(house.keep("zz", question), ("size", 2, 0))
        house.undo()
        self.assertEqual(house.keep("k", ("kind", 4, 4, "a")), None)
        self.assertEqual(house.labels(), ["k", "zz"])
        self.assertTrue(exactly_equal(house.paper("zz"), (question, ("size", 2, 0), 3)))
        self.assertTrue(exactly_equal(house.paper("k"), (("kind", 4, 4, "a"), None, 2)))

    def test_labels(self):
        house = self.house()
        house.keep("k", ("layings", "a"))
        for label in NO_NAMES + ["k"]:
            if exactly_equal(label, "ab"):
                continue
            error = self.assert_refused(BadName, house, house.keep, label, ("layings", "a"))
            self.assertTrue(exactly_equal(error.name, label))
            # Ahead of what ask raises.
            self.assert_refused(BadName, house, house.keep, label, None)
        for label in NO_NAMES + ["other", "main"]:
            for call in (house.paper, house.today):
                error = self.assert_refused(UnknownName, house, call, label)
                self.assertTrue(exactly_equal(error.name, label))

    def test_eight_papers(self):
        house = self.house()
        for label in "hgfedcba":
            house.keep(label, ("layings", "a"))
        self.assertEqual(house.labels(), list("abcdefgh"))
        self.assert_refused(TooMany, house, house.keep, "i", ("layings", "a"))
        self.assert_refused(BadName, house, house.keep, "a", ("layings", "a"))
        self.assert_refused(BadDeed, house, house.keep, "i", ("layings", "w"))
        self.assert_refused(UnknownName, house, house.keep, "i", ("layings", "z"))

    def test_papers_stay(self):
        house = self.house()
        house.keep("k", ("layings", "a"))
        kept = house.paper("k")
        house.branch("side")
        for call in (house.undo, house.undo, house.redo, lambda: house.go("side"), lambda: house.do(("away", "a")),
                     lambda: house.merge("main"), lambda: house.go("main")):
            try:
                call()
            except (RimError, Missing):
                pass
            self.assertEqual((house.labels(), house.paper("k")), (["k"], kept))

    def test_today_of_sizes_and_kinds(self):
        house = self.house()
        house.keep("s", ("size", 4, 4, "w"))
        house.keep("k", ("kind", 4, 4, "a"))
        house.keep("f", ("kind", 4, 5, "b"))
        self.assertEqual([house.today(label) for label in "skf"], [None] * 3)
        house.do(("word", "w", WORD))
        self.assertTrue(exactly_equal(house.today("s"), ("answer", ("size", 4, 1))))
        house.do(("word", "w", RIM_OF_TWO[1:] + RIM_OF_TWO[:1]))
        self.assertIsNone(house.today("s"))
        house.do(("word", "w", (1, 1, 1)))
        self.assertEqual(house.today("s"), ("answer", size_of(4, 4, (1, 1, 1))))
        house.do(("tile", "a", 5))
        self.assertEqual(house.today("k"), ("answer", ("tile", 0)))
        house.do(("tile", "b", 4))
        self.assertEqual(house.today("f"), ("answer", None))
        house.do(("word", "w", (1, 1, 5)))
        self.assertEqual(house.today("s"), ("gone",))
        house.do(("tile", "w", 4))
        self.assertEqual(house.today("s"), ("gone",))
        house.do(("away", "b"))
        self.assertEqual(house.today("f"), ("gone",))
        for _ in range(8):
            house.undo()
        self.assertEqual([house.today(label) for label in "skf"], [None] * 3)

    def test_today_of_what_is_judged(self):
        house = self.house()
        house.do(("word", "e", (1,) * 8))
        house.do(("gluing", "c", mirrored(TWO)))
        answers = {"f": house.keep("f", ("fill", 4, 4, "w")), "n": house.keep("n", ("fill", 7, 3, "e")),
                   "l": house.keep("l", ("like", "a", "c")), "u": house.keep("u", ("like", "a", "b")),
                   "y": house.keep("y", ("layings", "b"))}
        self.assertEqual((answers["f"][0], answers["n"][0], answers["l"][0], answers["u"][0]),
                         ("disc", "barred", "like", "sizes"))
        self.assertEqual([house.today(label) for label in "fnluy"], [None] * 5)
        house.do(("word", "w", WORD))
        self.assertTrue(exactly_equal(house.today("f"), judge_fill(4, 4, WORD, answers["f"])))
        self.assertEqual(house.today("f"), ("word", rim_word(*answers["f"][1:])))
        house.do(("word", "e", (1,) * 7))
        self.assertEqual(house.today("n"), ("lacks",))
        house.do(("gluing", "c", ROW))
        self.assertEqual(house.today("l"), judge_likening(TWO, ROW, answers["l"]))
        self.assertEqual(house.today("l"), ("form",))
        house.do(("gluing", "a", BAND))
        self.assertEqual(house.today("u"), judge_likening(BAND, BLOCK, answers["u"]))
        house.do(("gluing", "b", ROW))
        self.assertEqual(house.today("y"), judge_layings(ROW, answers["y"]))
        self.assertEqual(house.today("y"), ("unlike",))
        house.do(("gluing", "b", BAND))
        self.assertEqual(house.today("y"), ("gone",))
        house.do(("gluing", "a", APART))
        self.assertEqual([house.today(label) for label in "lu"], [("gone",)] * 2)
        # Other gluings of which the same is right.
        house.do(("gluing", "b", mirrored(BLOCK)))
        self.assertIsNone(house.today("y"))
        house.do(("gluing", "a", ONE))
        self.assertEqual(house.today("u"), judge_likening(ONE, mirrored(BLOCK), answers["u"]))

    def test_today_of_fillings_of_a_kind(self):
        # Three triangles about a corner of the rim: of the kind (3, 6), and not of (6, 6) or (3, 3).
        house = house_with(w=(3, 1, 2, 2, 1))
        self.assertEqual(house.keep("k", ("fill", 3, 6, "w"))[0], "disc")
        self.assertIsNone(house.today("k"))
        house.do(("word", "w", (1, 1, 1)))
        self.assertEqual(house.today("k"), ("word", (3, 1, 2, 2, 1)))

    def test_today_in_branches(self):
        house = self.house()
        house.keep("k", ("layings", "a"))
        house.branch("side")
        house.do(("away", "a"))
        self.assertEqual(house.today("k"), ("gone",))
        house.go("side")
        self.assertIsNone(house.today("k"))

    def test_nothing_that_is_returned_is_kept(self):
        house = self.house()
        house.keep("k", ("layings", "a"))
        kept = copy.deepcopy(told_of(house))
        for each in (house.shelf(), house.shelf_at(2), house.branches(), house.labels()):
            each.clear()
        house.shelf()["new"] = ("gluing", ONE)
        house.branches().append("x")
        self.assertTrue(exactly_equal(told_of(house), kept))
        self.assertIsNot(house.shelf(), house.shelf())
        self.assertIsNot(house.shelf_at(1), house.shelf_at(1))

    def test_houses_are_their_own(self):
        one, other = self.house(), House()
        one.branch("side")
        one.keep("k", ("layings", "a"))
        self.assertEqual(told_of(other), told_of(House()))


if __name__ == "__main__":
    unittest.main()

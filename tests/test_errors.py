"""The errors: how they stand beneath one another, and the copies that they bear."""

import unittest

from tests.helpers import exactly_equal
from whatrims import errors
from whatrims.errors import (BadDeed, BadName, BadText, Clash, Missing, NoMoment, NoRing, NotGlued, NothingDone,
                             NotLaid, RimError, TooMany, UnknownName)

PLAIN = (TooMany, BadDeed, NothingDone)
BEARING = {BadText: "place", NotLaid: "number", NoRing: "place", NotGlued: "number", BadName: "name", Clash: "names",
           UnknownName: "name", NoMoment: "number"}


class Family(unittest.TestCase):
    def test_what_stands_directly_beneath_what(self):
        self.assertEqual(RimError.__bases__, (ValueError,))
        self.assertEqual(Missing.__bases__, (LookupError,))
        for error in (*PLAIN, BadText, NotLaid, NoRing, NotGlued, BadName, Clash):
            self.assertEqual(error.__bases__, (RimError,))
        for error in (UnknownName, NoMoment):
            self.assertEqual(error.__bases__, (Missing,))

    def test_none_stands_beneath_another_one_else(self):
        all_errors = [RimError, Missing, *PLAIN, *BEARING]
        for one in all_errors:
            for other in all_errors:
                due = one is other or other is (Missing if one in (UnknownName, NoMoment) else RimError)
                if one is Missing:
                    due = other is Missing
                self.assertEqual(issubclass(one, other), due, (one, other))

    def test_all_stand_here(self):
        for error in (RimError, Missing, *PLAIN, *BEARING):
            self.assertEqual(error.__module__, "whatrims.errors")
            self.assertIs(getattr(errors, error.__name__), error)

    def test_those_without_arguments(self):
        for error in PLAIN:
            with self.assertRaises(error) as caught:
                raise error()
            self.assertEqual(vars(caught.exception), {})


class Copies(unittest.TestCase):
    def test_attributes_by_their_names(self):
        for error, attribute in BEARING.items():
            self.assertEqual(vars(error(7)), {attribute: 7})
            with self.assertRaises(error) as caught:
                raise error("a")
            self.assertEqual(getattr(caught.exception, attribute), "a")

    def test_any_value_is_borne_as_it_is(self):
        values = [None, True, False, 0, 1, -10 ** 40, "", "a b", (), [], {}, (True, 1, [False, (0, None)]),
                  [[], [[]], {"k": [1, {True: (2, [])}]}], {(1, 2): [], None: {}, "": ((),)}]
        for error, attribute in BEARING.items():
            for value in values:
                self.assertTrue(exactly_equal(getattr(error(value), attribute), value), (error, value))

    def test_copies_at_any_depth(self):
        for error, attribute in BEARING.items():
            innermost = [1]
            table = {"k": innermost}
            value = [(table, [innermost]), "x"]
            borne = getattr(error(value), attribute)
            innermost.append(2)
            table["more"] = True
            value.append(None)
            self.assertTrue(exactly_equal(borne, [({"k": [1]}, [[1]]), "x"]), error)

    def test_copies_thirty_deep(self):
        innermost = []
        value = innermost
        for k in range(30):
            value = [[value], (value,), {"k": value}][k % 3]
        borne = BadName(value).name
        innermost.append(1)
        self.assertFalse(exactly_equal(borne, value))
        innermost.pop()
        self.assertTrue(exactly_equal(borne, value))

    def test_no_two_copies_are_one(self):
        value = []
        borne = Clash([value, value, (value,)]).names
        self.assertEqual(len({id(borne), id(borne[0]), id(borne[1]), id(borne[2][0]), id(value)}), 5)

    def test_what_is_passed_is_not_changed(self):
        value = [1, [True, {"k": [()]}]]
        for error in BEARING:
            error(value)
            self.assertTrue(exactly_equal(value, [1, [True, {"k": [()]}]]))

    def test_nothing_that_is_passed_is_kept(self):
        value = [1]
        for error in BEARING:
            self.assertFalse(any(part is value for part in error(value).args))


if __name__ == "__main__":
    unittest.main()

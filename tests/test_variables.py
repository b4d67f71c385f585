"""Point 16: the variables that are given."""

import unittest

from seamgraph.collecting import variables_of
from seamgraph.errors import InvalidVariables, SeamError
from seamgraph.gateway import Gateway, bound
from seamgraph.parser import parse_document
from seamgraph.whole import execute

from world import SCHEMA, stores


def read(text, given):
    return variables_of(parse_document("query " + text + " { _type }"), given)


class VariablesTest(unittest.TestCase):
    def check(self, text, given, due):
        before = dict(given)
        found = read(text, given)
        self.assertEqual(repr(sorted(found.items())), repr(sorted(due.items())))
        self.assertEqual(repr(given), repr(before))
        self.assertIsNot(found, given)

    def refuse(self, text, given):
        with self.assertRaises(InvalidVariables):
            read(text, given)

    def test_given_values(self):
        self.check("($a: Int $b: Text! $c: Truth)", {"c": False, "a": 1, "b": ""}, {"a": 1, "b": "", "c": False})
        self.check("($a: Int!)", {"a": -2147483648}, {"a": -2147483648})
        self.check("", {}, {})

    def test_names_that_are_not_declared(self):
        self.refuse("", {"a": None})
        self.refuse("($a: Int)", {"b": 1})
        self.refuse("($a: Int)", {"a": 1, "A": 1})

    def test_values_that_do_not_fit(self):
        for value in (True, False, "1", 2147483648, -2147483649):
            self.refuse("($a: Int)", {"a": value})
            self.refuse("($a: Int! = 3)", {"a": value})
        for value in (1, True, "a\nb", "%"):
            self.refuse("($a: Text)", {"a": value})
        for value in (0, 1, "true"):
            self.refuse("($a: Truth!)", {"a": value})

    def test_none(self):
        self.check("($a: Int $b: Text = \"x\")", {"a": None, "b": None}, {"a": None, "b": None})
        self.refuse("($a: Int!)", {"a": None})
        self.refuse("($a: Int! = 3)", {"a": None})

    def test_missing_ones(self):
        self.check("($a: Int = 3 $b: Text! = \"x\" $c: Truth = false)", {}, {"a": 3, "b": "x", "c": False})
        self.check("($a: Int = null)", {}, {"a": None})
        self.check("($a: Int $b: Int)", {"b": 2}, {"b": 2})
        self.refuse("($a: Int!)", {})
        self.refuse("($a: Int $b: Text!)", {"a": 1})

    def test_given_ones_go_before_defaults(self):
        self.check("($a: Int = 3 $b: Truth! = true)", {"a": 4, "b": False}, {"a": 4, "b": False})

    def test_the_error(self):
        self.assertTrue(issubclass(InvalidVariables, SeamError))

    def test_everything_that_runs_documents_refuses(self):
        document = parse_document("query($a: Truth!) { me { id @if($a) } }")
        gateway = Gateway(SCHEMA, stores(), ())
        for given in ({}, {"a": None}, {"a": 1}, {"a": True, "b": True}):
            with self.assertRaises(InvalidVariables):
                execute(SCHEMA, stores(), (), document, given)
            with self.assertRaises(InvalidVariables):
                bound(SCHEMA, document, given)
            with self.assertRaises(InvalidVariables):
                gateway.run(document, given)


if __name__ == "__main__":
    unittest.main()

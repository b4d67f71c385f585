"""Points 17 and 18: the groups of a selection, and their arguments."""

import unittest

from seamgraph.checking import broken_rules
from seamgraph.collecting import Group, collect, variables_of
from seamgraph.parser import parse_document

from world import SCHEMA


def field(name, selection=None, key=None):
    return ("field", key or name, name, (), (), selection)


class CollectingTest(unittest.TestCase):
    def collect(self, text, given=None, type_name="Query", selection=None):
        document = parse_document(text)
        self.assertEqual(broken_rules(SCHEMA, document), ())
        groups = collect(
            SCHEMA,
            document,
            variables_of(document, given or {}),
            type_name,
            document.selection if selection is None else selection,
        )
        self.assertIsInstance(groups, list)
        for group in groups:
            self.assertIsInstance(group, Group)
        return groups

    def keys(self, text, given=None, type_name="Query"):
        return [group.key for group in self.collect(text, given, type_name)]

    def inside(self, text, type_name, given=None):
        """Collects the selection of the first group, for a type."""
        document = parse_document(text)
        group = self.collect(text, given)[0]
        variables = variables_of(document, given or {})
        return [inner.key for inner in collect(SCHEMA, document, variables, type_name, group.selection)]

    def test_fields_in_order(self):
        groups = self.collect("query { b: me { id } a: count _type me { name } }")
        self.assertEqual([group.key for group in groups], ["b", "a", "_type", "me"])
        self.assertEqual([group.name for group in groups], ["me", "count", "_type", "me"])
        self.assertEqual([group.selection for group in groups], [(field("id"),), (), (), (field("name"),)])
        self.assertEqual([group.arguments for group in groups], [(), (3, True), (), ()])

    def test_groups_stand_at_the_first_place(self):
        groups = self.collect("query { me { id } count me { name id } x: _type me { age } x: _type }")
        self.assertEqual([group.key for group in groups], ["me", "count", "x"])
        self.assertEqual(groups[0].selection, (field("id"), field("name"), field("id"), field("age")))
        self.assertEqual((groups[2].name, groups[2].arguments, groups[2].selection), ("_type", (), ()))

    def test_conditions_of_fields(self):
        text = "query { a: count @if(true) b: count @if(false) c: count @unless(true) d: count @unless(false) }"
        self.assertEqual(self.keys(text), ["a", "d"])
        text = "query { a: count @if(true) @unless(false) b: count @if(true) @unless(true) c: count @if(false) @if(true) }"
        self.assertEqual(self.keys(text), ["a"])

    def test_conditions_with_variables(self):
        text = "query($x: Truth! $y: Truth! = false) { a: count @if($x) b: count @unless($x) c: count @if($y) }"
        self.assertEqual(self.keys(text, {"x": True}), ["a"])
        self.assertEqual(self.keys(text, {"x": False}), ["b"])
        self.assertEqual(self.keys(text, {"x": False, "y": True}), ["b", "c"])

    def test_an_absent_variable_in_a_condition(self):
        document = parse_document("query($x: Truth!) { a: count @if($x) b: count @unless($x) count }")
        groups = collect(SCHEMA, document, {}, "Query", document.selection)
        self.assertEqual([group.key for group in groups], ["count"])

    def test_a_field_that_does_not_apply_gives_no_place_and_no_selection(self):
        groups = self.collect("query { me @if(false) { id } count me { name } me @unless(true) { age } }")
        self.assertEqual([group.key for group in groups], ["count", "me"])
        self.assertEqual(groups[1].selection, (field("name"),))

    def test_parts_on_without_a_type(self):
        text = "query { a: count ... { b: count ... @if(true) { c: count } a: count } d: count }"
        self.assertEqual(self.keys(text), ["a", "b", "c", "d"])
        text = "query { ... @if(false) { a: count } ... @unless(true) { b: count } ... @unless(false) { c: count } }"
        self.assertEqual(self.keys(text), ["c"])

    def test_parts_on_with_a_type(self):
        text = "query { found { ... on Post { code } ... on Note { text } ... on Found { _type } ... on User { id } } }"
        self.assertEqual(self.inside(text, "Post"), ["code", "_type"])
        self.assertEqual(self.inside(text, "Note"), ["text", "_type"])
        self.assertEqual(self.inside(text, "User"), ["_type", "id"])
        text = "query { found { ... on Found { ... on Post @if(false) { code } ... on Post { title } } } }"
        self.assertEqual(self.inside(text, "Post"), ["title"])
        self.assertEqual(self.inside(text, "Note"), [])

    def test_spreads(self):
        text = (
            "query($x: Truth!) { found { _type ...P ...F @if($x) ...U @unless($x) } }"
            " fragment P on Post { code a: title }"
            " fragment F on Found { ...P ... on Note { text } }"
            " fragment U on User { id a: mark { _type } }"
        )
        self.assertEqual(self.inside(text, "Post", {"x": True}), ["_type", "code", "a"])
        self.assertEqual(self.inside(text, "Note", {"x": True}), ["_type", "text"])
        self.assertEqual(self.inside(text, "Note", {"x": False}), ["_type"])
        self.assertEqual(self.inside(text, "User", {"x": True}), ["_type"])
        self.assertEqual(self.inside(text, "User", {"x": False}), ["_type", "id", "a"])

    def test_selections_one_after_the_other(self):
        text = (
            "query { me { id } ...F ... on Query { me { name } } ... { me { age } } ...F }"
            " fragment F on Query { count me { friend { id } } }"
        )
        groups = self.collect(text)
        self.assertEqual([group.key for group in groups], ["me", "count"])
        friend = field("friend", (field("id"),))
        self.assertEqual(groups[0].selection, (field("id"), friend, field("name"), field("age"), friend))

    def test_the_selection_of_a_group_keeps_its_parts(self):
        text = "query { top { ...F ... on Post @if(true) { code } } top { _type } } fragment F on Found { _type }"
        (group,) = self.collect(text)
        self.assertEqual(
            group.selection,
            (
                ("spread", "F", ()),
                ("on", "Post", (("if", ("truth", True)),), (field("code"),)),
                field("_type"),
            ),
        )

    def test_the_document_is_not_changed(self):
        text = "query { me { id } me { name } ...F } fragment F on Query { me { age } }"
        document = parse_document(text)
        variables = {}
        collect(SCHEMA, document, variables, "Query", document.selection)
        self.assertEqual(document, parse_document(text))
        self.assertEqual(variables, {})


class ArgumentsTest(unittest.TestCase):
    def arguments(self, text, given=None):
        document = parse_document(text)
        self.assertEqual(broken_rules(SCHEMA, document), ())
        groups = collect(SCHEMA, document, variables_of(document, given or {}), "Query", document.selection)
        return groups[0].arguments

    def check(self, text, due, given=None):
        self.assertEqual(repr(self.arguments(text, given)), repr(due))

    def test_in_the_order_of_the_params(self):
        self.check("query { user(near: true, id: 5) { id } }", (5, True))
        self.check("query { user(id: 1, near: false) { id } }", (1, False))

    def test_defaults(self):
        self.check("query { count }", (3, True))
        self.check("query { count(exact: false) }", (3, False))
        self.check("query { count(least: -1) }", (-1, True))
        self.check("query { user(id: 5) { id } }", (5, None))

    def test_null_goes_before_the_default(self):
        self.check("query { count(least: null) }", (None, True))
        self.check("query($n: Int) { count(least: $n) }", (None, True), {"n": None})
        self.check("query($n: Int = null) { count(least: $n) }", (None, True))

    def test_variables(self):
        self.check("query($n: Int!, $b: Truth) { user(near: $b, id: $n) { id } }", (1, False), {"n": 1, "b": False})
        self.check("query($n: Int! = 8) { user(id: $n) { id } }", (8, None))
        self.check("query($n: Int = 8) { count(least: $n) }", (9, True), {"n": 9})

    def test_absent_variables(self):
        self.check("query($n: Int) { count(least: $n) }", (3, True))
        self.check("query($b: Truth) { user(near: $b, id: 2) { id } }", (2, None))

    def test_no_params(self):
        self.check("query { me { id } }", ())
        self.check("query { _type }", ())


if __name__ == "__main__":
    unittest.main()

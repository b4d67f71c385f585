import itertools
import unittest

from seamgraph.checking import broken_rules
from seamgraph.parser import Document, parse_document
from seamgraph.schema import Service, compose

MAIN = Service(
    "main",
    (
        (
            "Query",
            None,
            (
                ("me", (), "User"),
                ("user", (("id", "Int!", None),), "User!"),
                ("users", (("limit", "Int", None), ("text", "Text", None)), "[User!]!"),
                ("found", (), "[Found!]!"),
                ("box", (), "Box"),
                ("count", (("exact", "Truth!", True), ("least", "Int", 3)), "Int!"),
                ("item", (("code", "Text!", None), ("sure", "Truth!", None)), "Item"),
            ),
        ),
        (
            "User",
            "id",
            (
                ("id", (), "Int!"),
                ("name", (("short", "Truth", None),), "Text"),
                ("friend", (("near", "Truth", None),), "User"),
                ("tags", (), "[Text!]"),
                ("top", (), "Found"),
            ),
        ),
        ("Box", None, (("size", (), "Int"), ("box", (), "Box!"), ("owner", (), "User"), ("things", (), "[Thing]"))),
        (
            "Item",
            "code",
            (
                ("code", (), "Text!"),
                ("size", (), "Int"),
                ("name", (), "Text"),
                ("twin", (), "Item"),
                ("found", (), "[[Found!]!]"),
            ),
        ),
    ),
    (("Found", ("User", "Item")), ("Thing", ("Box", "Item")), ("Boxes", ("Box",))),
)
MORE = Service(
    "more",
    (
        ("User", "id", (("id", (), "Int!"), ("posts", (("limit", "Int!", 10),), "[Post!]!"))),
        ("Post", "id", (("id", (), "Int!"), ("text", (), "Text!"), ("author", (), "User"))),
    ),
    (),
)
SCHEMA = compose([MAIN, MORE])


def text_of(parts, variables="", fragments=""):
    declared = "(" + variables + ")" if variables else ""
    return "query" + declared + " { " + parts + " } " + fragments


def broken(parts, variables="", fragments=""):
    return broken_rules(SCHEMA, parse_document(text_of(parts, variables, fragments)))


def on(type_name, parts):
    return "... on " + type_name + " { " + parts + " }"


# One document for each rule, in parts that can stand beside each other.
ALONE = {
    1: ("...Missing", "", ""),
    2: ("", "", "fragment Round on User { ...Round }"),
    3: ("r3: nothing", "", ""),
    4: ("r4: me", "", ""),
    5: ("r5: user { id }", "", ""),
    6: ('r6: count(least: "3")', "", ""),
    7: ("", "$r7: [Int]", ""),
    8: ("... on Item { code }", "", ""),
    9: ("r9: count r9: _type", "", ""),
    10: ("r10: count @if(1)", "", ""),
}


class Checking(unittest.TestCase):
    def assert_broken(self, rules, parts, variables="", fragments=""):
        found = broken(parts, variables, fragments)
        self.assertEqual(found, rules, text_of(parts, variables, fragments))

    def assert_accepted(self, parts, variables="", fragments=""):
        self.assert_broken((), parts, variables, fragments)


class ResultTest(Checking):
    """Point 15: which numbers are told, and in which order."""

    def test_an_ascending_tuple(self):
        self.assertIs(type(broken("count")), tuple)
        self.assertIs(type(broken("nothing me")), tuple)
        self.assertEqual(broken("me nothing"), (3, 4))

    def test_rules_together(self):
        for size in range(len(ALONE) + 1):
            for rules in itertools.combinations(ALONE, size):
                texts = [" ".join(texts) for texts in zip(("count", "", ""), *(ALONE[rule] for rule in rules))]
                first = tuple(rule for rule in rules if rule < 3)
                self.assert_broken(first or rules, *(text.strip() for text in texts))

    def test_a_rule_that_is_broken_twice_is_told_once(self):
        self.assert_broken((3,), "nothing nobody")
        self.assert_broken((1,), "...A ...B")

    def test_nothing_is_modified(self):
        text = text_of("me { ...F } nothing", "$a: Int", "fragment F on User { id }")
        document = parse_document(text)
        types = {name: dict(fields) for name, fields in SCHEMA.types.items()}
        broken_rules(SCHEMA, document)
        self.assertEqual(document, parse_document(text))
        self.assertEqual(SCHEMA.types, types)

    def test_documents_that_were_not_parsed(self):
        selection = (("field", "count", "count", (), (), None),)
        self.assertEqual(broken_rules(SCHEMA, Document((), selection, ())), ())
        many = tuple((name, "Query", selection) for name in "abcdefghijklmnop")
        self.assertEqual(broken_rules(SCHEMA, Document((), selection, many)), ())
        for _ in range(14):
            selection = (("on", None, (), selection),)
        self.assertEqual(broken_rules(SCHEMA, Document((), selection, ())), ())


class AcceptedTest(Checking):
    """Point 15: documents that break no rule."""

    PARTS = [
        "_type",
        "k: _type",
        "count",
        "count(exact: false, least: 2)",
        "count(least: null)",
        "me { id name friend { friend { tags } } }",
        "me { _type posts { id text author { name } } top { _type } }",
        "user(id: 1) { id }",
        'users(text: "a", limit: 2147483647) { id }',
        "users { ... on Found { ... on User { name } } }",
        "users { ... on User { ... { name } } }",
        "found { _type ... on User { id name } ... on Item { code name } }",
        "found { ... on Thing { ... on Item { size } ... on Box { size } } }",
        "box { size box { things { _type ... on Box { size } ... on Boxes { _type } } } }",
        'item(code: "" sure: true) { twin { found { ... on User { id } } } }',
        "... on Query { me { id } }",
        "... { ... { count } }",
        "... @if(true) @unless(false) { me { id @if(false) @if(true) } }",
        "...F ...F @if(true)",
    ]
    FRAGMENTS = (
        "fragment F on Query { me { id ...G } ...H } fragment G on Found { _type ...I } fragment H on Query { count }"
        " fragment I on User { name } fragment Unused on Box { things { ...I2 } } fragment I2 on Item { size }"
    )

    def test_parts(self):
        for part in self.PARTS:
            self.assert_accepted(part, "", self.FRAGMENTS)

    def test_variables(self):
        self.assert_accepted("count", "$a: Int $b: Int! $c: Text $d: Text! $e: Truth $f: Truth!")
        self.assert_accepted("count", '$a: Int = 1 $b: Int! = 2 $c: Text = "" $d: Truth! = false $e: Int = null')
        self.assert_accepted("user(id: $a) @if($b) { name(short: $b) }", "$a: Int! $b: Truth!")
        self.assert_accepted("...F", "$a: Int", "fragment F on Query { count(least: $a) }")


class NamesTest(Checking):
    """Rule 1: the names of fragments and of types."""

    def test_fragments_of_the_same_name(self):
        self.assert_broken((1,), "count", "", "fragment F on Query { count } fragment F on Query { count }")
        self.assert_broken((1,), "...F", "", "fragment F on Query { count } fragment F on User { id }")
        self.assert_accepted("...F", "", "fragment F on Query { count } fragment f on Query { count }")

    def test_spreads_without_a_fragment(self):
        self.assert_broken((1,), "...F")
        self.assert_broken((1,), "...User")
        self.assert_broken((1,), "me { friend { ...F } }")
        self.assert_broken((1,), "... { ...F }")
        self.assert_broken((1,), "...F", "", "fragment G on Query { count }")
        self.assert_broken((1,), "count", "", "fragment G on Query { ...F }")

    def test_spreads_where_other_rules_are_not_checked(self):
        self.assert_broken((1,), "nothing { ...F }")
        self.assert_broken((1,), "count { ...F }")
        self.assert_broken((1,), "found { nothing { nothing { ...F } } }")

    def test_types_of_fragments(self):
        for name in ("Nothing", "Int", "Text", "Truth", "query", "on"):
            self.assert_broken((1,), "count", "", "fragment F on " + name + " { _type }")
        for name in ("Query", "User", "Box", "Item", "Post", "Found", "Thing", "Boxes"):
            self.assert_accepted("count", "", "fragment F on " + name + " { _type }")

    def test_types_of_parts(self):
        for name in ("Nothing", "Int", "Text", "Truth", "user", "F"):
            fragment = "fragment F on User { " + on(name, "_type") + " }"
            self.assert_broken((1,), on(name, "_type"), "", "fragment F on User { id }")
            self.assert_broken((1,), "me { friend { " + on(name, "_type") + " } }", "", "fragment F on User { id }")
            self.assert_broken((1,), "nothing { " + on(name, "_type") + " }", "", "fragment F on User { id }")
            self.assert_broken((1,), "count { " + on(name, "_type") + " }", "", "fragment F on User { id }")
            self.assert_broken((1,), "count", "", fragment)


class CirclesTest(Checking):
    """Rule 2: fragments that contain themselves."""

    def test_directly(self):
        self.assert_broken((2,), "...F", "", "fragment F on Query { count ...F }")
        self.assert_broken((2,), "count", "", "fragment F on Query { count ...F }")
        self.assert_broken((2,), "count", "", "fragment F on User { friend { ...F } }")
        self.assert_broken((2,), "count", "", "fragment F on User { ... { ... on User { ...F @if(false) } } }")

    def test_through_others(self):
        circle = "fragment F on User { ...G } fragment G on User { ...H } fragment H on User { friend { ...F } }"
        self.assert_broken((2,), "count", "", circle)
        self.assert_broken((2,), "me { ...G }", "", circle)
        self.assert_broken((2,), "count", "", circle.replace("...F", "...H"))
        self.assert_broken((2,), "count", "", circle.replace("...F", "...G"))
        self.assert_accepted("count", "", circle.replace("...F", "id"))

    def test_where_other_rules_are_not_checked(self):
        self.assert_broken((2,), "count", "", "fragment F on User { nothing { ...F } }")
        self.assert_broken((2,), "count", "", "fragment F on User { id { ...F } }")
        self.assert_broken((2,), "count", "", "fragment F on User { ... on Item { ...F } }")

    def test_no_circle(self):
        fragments = (
            "fragment F on User { ...G ...H } fragment G on User { ...H } fragment H on User { id }"
            " fragment I on User { ...F ...G ...H ...H }"
        )
        self.assert_accepted("me { ...I ...F }", "", fragments)

    def test_fragments_of_the_same_name_count_together(self):
        first, second = "fragment F on User { id ...G } ", "fragment F on User { id } "
        last = "fragment G on User { ...F }"
        self.assert_broken((1, 2), "count", "", first + second + last)
        self.assert_broken((1, 2), "count", "", second + first + last)
        self.assert_broken((1, 2), "count", "", last + second + first)
        self.assert_broken((1,), "count", "", first + second + "fragment G on User { id }")
        two = "fragment F on User { ...G } fragment F on User { ...H } fragment G on User { id } "
        self.assert_broken((1, 2), "count", "", two + "fragment H on User { ...F }")

    def test_circles_beside_missing_fragments(self):
        self.assert_broken((1, 2), "...Missing", "", "fragment F on User { ...F }")
        self.assert_broken((1, 2), "count", "", "fragment F on User { ...Missing ...F }")
        self.assert_broken((1, 2), "count", "", "fragment F on Nothing { ...F }")


class FieldsTest(Checking):
    """Rule 3: the fields that a type has."""

    def test_fields_that_do_not_exist(self):
        self.assert_broken((3,), "nothing")
        self.assert_broken((3,), "Me { id }")
        self.assert_broken((3,), "me { me { id } }")
        self.assert_broken((3,), "me { count }")
        self.assert_broken((3,), "box { id }")
        self.assert_broken((3,), "k: me { nothing }")
        self.assert_broken((3,), "box: me { size }")
        self.assert_broken((3,), "count: nothing")
        self.assert_broken((3,), "... { nothing }")
        self.assert_broken((3,), "found { ... on User { code } }")
        self.assert_broken((3,), "me { posts { author { size } } }")

    def test_fields_in_fragments(self):
        self.assert_broken((3,), "count", "", "fragment F on User { code }")
        self.assert_broken((3,), "...F", "", "fragment F on Query { id }")
        self.assert_broken((3,), "count", "", "fragment F on Found { id }")

    def test_fields_in_unions(self):
        self.assert_broken((3,), "found { name }")
        self.assert_broken((3,), "found { _type name }")
        self.assert_broken((3,), "box { things { ... on Boxes { size } } }")
        self.assert_broken((3,), "found { ... { name } }")
        self.assert_broken((3,), "found { ... on User { ... on Found { name } } }")
        self.assert_accepted("found { k: _type ... { _type } }")

    def test_a_part_without_a_type_stands_in_the_type_around_it(self):
        self.assert_accepted("me { ... { ... @if(true) { name } } }")
        self.assert_broken((3,), "me { ... { count } }")

    def test_nothing_else_is_checked_for_a_field_that_does_not_exist(self):
        self.assert_broken((3,), "nothing(a: 1, a: 1)")
        self.assert_broken((3,), "nothing { id }")
        self.assert_broken((3,), "k: nothing k: count k: nothing(a: 1)")
        self.assert_broken((3,), "found { name(short: 1) name { id } name }")

    def test_nor_inside_it(self):
        self.assert_broken((3,), "nothing { nobody k: me k: count user }")
        self.assert_broken((3,), "nothing { _type { id } count(least: true) }")
        self.assert_broken((3,), "nothing { ... on User { id { id } code } ... on Item { ... on Box { _type } } }")
        self.assert_broken((3,), "nothing { me { me } ... { me { me } } }")
        self.assert_broken((3,), "nothing { ...F }", "", "fragment F on User { id }")
        self.assert_broken((3,), "found { name { ...F } }", "", "fragment F on Box { size }")

    def test_but_inside_the_fragment_that_it_names(self):
        self.assert_broken((3, 4), "nothing { ...F }", "", "fragment F on User { friend }")


class SelectionsTest(Checking):
    """Rule 4: which fields have a selection."""

    def test_a_selection_is_missing(self):
        self.assert_broken((4,), "me")
        self.assert_broken((4,), "users")
        self.assert_broken((4,), "found")
        self.assert_broken((4,), "box { box }")
        self.assert_broken((4,), 'item(code: "", sure: true) { found }')
        self.assert_broken((4,), "count", "", "fragment F on User { top }")

    def test_a_selection_too_much(self):
        self.assert_broken((4,), "count { _type }")
        self.assert_broken((4,), "me { tags { _type } }")
        self.assert_broken((4,), "_type { _type }")
        self.assert_broken((4,), "found { _type { _type } }")
        self.assert_broken((4,), "k: _type { id }")

    def test_nothing_is_checked_inside_a_scalar(self):
        self.assert_broken((4,), "count { nothing me user { id } k: a k: b count(least: true) }")
        self.assert_broken((4,), "_type { ... on Item { code } ... on User { nothing } }")
        self.assert_broken((4,), "me { name { ...F } }", "", "fragment F on Box { size }")
        self.assert_broken((4,), "me { name { k: id } name { k: name } }")


class ArgumentsTest(Checking):
    """Rule 5: which arguments a field has."""

    def test_arguments_that_are_no_params(self):
        self.assert_broken((5,), "me(id: 1) { id }")
        self.assert_broken((5,), "count(Least: 1)")
        self.assert_broken((5,), "users(limit: 1, short: true) { id }")
        self.assert_broken((5,), "me { id(id: 1) }")
        self.assert_broken((5,), "_type(a: 1)")
        self.assert_broken((5,), "found { _type(short: true) }")
        self.assert_broken((5,), "count", "", "fragment F on User { id(a: 1) }")

    def test_arguments_that_are_given_twice(self):
        self.assert_broken((5,), "count(least: 1, least: 1)")
        self.assert_broken((5,), "count(least: 1, exact: true, least: 2)")
        self.assert_broken((5,), "user(id: 1, id: 1) { id }")

    def test_arguments_that_are_missing(self):
        self.assert_broken((5,), "user { id }")
        self.assert_broken((5,), 'item(code: "") { code }')
        self.assert_broken((5,), "item(sure: true) { code }")
        self.assert_broken((5,), "item { code }")

    def test_arguments_that_need_not_be_given(self):
        self.assert_accepted("count users { id } me { posts { id } }")

    def test_params_of_one_field_are_not_those_of_another(self):
        self.assert_broken((5,), "me { posts(short: true) { id } }")


class ValuesTest(Checking):
    """Rule 6: the values of arguments."""

    def test_constants_that_fit(self):
        for value in ("0", "2147483647", "-2147483648"):
            self.assert_accepted("user(id: " + value + ") { id }")
            self.assert_accepted("users(limit: " + value + ") { id }")
        self.assert_accepted('users(text: "") { id }')
        self.assert_accepted("users(text: null, limit: null) { id }")
        self.assert_accepted("count(exact: true)")
        self.assert_accepted("count(exact: false)")

    def test_constants_that_do_not_fit(self):
        for value in ("2147483648", "-2147483649", '"1"', "true", "null"):
            self.assert_broken((6,), "user(id: " + value + ") { id }")
        for value in ("2147483648", "9999999999", '""', "false"):
            self.assert_broken((6,), "users(limit: " + value + ") { id }")
        for value in ("1", "true"):
            self.assert_broken((6,), "users(text: " + value + ") { id }")
        for value in ("1", "0", '"true"', "null"):
            self.assert_broken((6,), "count(exact: " + value + ")")
        self.assert_broken((6,), "me { posts(limit: null) { id } }")
        self.assert_broken((6,), "me { name(short: 1) }")

    def test_each_argument_is_checked(self):
        self.assert_broken((6,), "users(limit: 1, text: 1) { id }")
        self.assert_broken((6,), 'users(text: "", limit: "") { id }')
        self.assert_broken((5, 6), "count(least: 1, least: true)")
        self.assert_broken((5, 6), "count(least: true, least: 1)")
        self.assert_broken((5,), "count(nothing: true)")
        self.assert_broken((6,), "count", "", "fragment F on Query { count(least: true) }")

    def test_variables(self):
        self.assert_accepted("user(id: $a) { id }", "$a: Int!")
        self.assert_accepted("count(least: $a)", "$a: Int!")
        self.assert_accepted("count(least: $a)", "$a: Int")
        self.assert_accepted("count(exact: $a)", "$a: Truth!")
        for kind in ("Int", "Int = 1", "Text!", "Truth!"):
            self.assert_broken((6,), "user(id: $a) { id }", "$a: " + kind)
        for kind in ("Text", "Text!", "Truth", "Truth!"):
            self.assert_broken((6,), "count(least: $a)", "$a: " + kind)
        for kind in ("Truth", "Truth = true", "Int!", "Text"):
            self.assert_broken((6,), "count(exact: $a)", "$a: " + kind)

    def test_variables_with_other_types(self):
        for kind in ("[Int]", "[Int!]!", "[Int]!", "[[Int]]", "User", "Nothing!"):
            self.assert_broken((6, 7), "count(least: $a)", "$a: " + kind)

    def test_variables_that_are_not_declared(self):
        self.assert_broken((7,), "user(id: $a) { id }")
        self.assert_broken((7,), "user(id: $a) { id }", "$b: Int!")

    def test_the_first_declaration_counts(self):
        self.assert_broken((7,), "user(id: $a) { id }", "$a: Int! $a: Text")
        self.assert_broken((6, 7), "user(id: $a) { id }", "$a: Text $a: Int!")
        self.assert_broken((6, 7), "user(id: $a) { id }", "$a: Int $a: Int!")


class VariablesTest(Checking):
    """Rule 7: the declarations of variables."""

    def test_names(self):
        self.assert_broken((7,), "count", "$a: Int $a: Int")
        self.assert_broken((7,), "count", "$a: Int $b: Int $a: Text!")
        self.assert_accepted("count", "$a: Int $A: Int")

    def test_types(self):
        for kind in ("[Int]", "[Int!]!", "[Text]!", "[[Truth]]", "User", "User!", "Query", "Found", "int", "Nothing"):
            self.assert_broken((7,), "count", "$a: " + kind)

    def test_defaults(self):
        for kind in ("Int", "Int!"):
            for value in ("0", "-2147483648", "2147483647"):
                self.assert_accepted("count", "$a: " + kind + " = " + value)
            for value in ("2147483648", "-2147483649", '"0"', "true", "false"):
                self.assert_broken((7,), "count", "$a: " + kind + " = " + value)
        self.assert_accepted("count", '$a: Text = "" $b: Text! = "x" $c: Truth = true $d: Truth! = false')
        for declaration in ("$a: Text = 0", "$a: Text! = true", "$a: Truth = 1", '$a: Truth! = "true"'):
            self.assert_broken((7,), "count", declaration)
        self.assert_accepted("count", "$a: Int = null $b: Text = null $c: Truth = null")
        for kind in ("Int!", "Text!", "Truth!", "[Int]", "User", "[Int!]!"):
            self.assert_broken((7,), "count", "$a: " + kind + " = null")
        self.assert_broken((7,), "count", "$a: [Int] = 1")
        self.assert_broken((7,), "count", "$a: Nothing = 1")

    def test_uses(self):
        for parts in (
            "count(least: $a)",
            "count @if($a)",
            "... @unless($a) { count }",
            "...F @if(true) @if($a)",
            "me { friend { name(short: $a) } }",
        ):
            self.assert_broken((7,), parts, "$b: Int", "fragment F on Query { count }")

    def test_uses_in_fragments(self):
        self.assert_broken((7,), "count", "", "fragment F on User { name(short: $a) }")
        self.assert_broken((7,), "...F", "$b: Truth", "fragment F on Query { count @if($a) }")
        self.assert_broken((7,), "count", "", "fragment F on Query { ...G @if($a) } fragment G on Query { count }")

    def test_uses_where_other_rules_are_not_checked(self):
        self.assert_broken((3, 7), "nothing(b: $a)")
        self.assert_broken((3, 7), "nothing { nothing(b: $a) }")
        self.assert_broken((3, 7), "nothing { ... on User @if($a) { id } }")
        self.assert_broken((3, 7), "found { nothing { id @if($a) } }")
        self.assert_broken((4, 7), "count { nothing(b: $a) }")
        self.assert_broken((4, 7), "_type { ... { nothing @if($a) } }")
        self.assert_broken((5, 7), "me(b: $a) { id }")
        self.assert_broken((7, 8), "... on Item { name @if($a) }")

    def test_variables_need_not_be_used(self):
        self.assert_accepted("count", "$a: Int! $b: Truth")


class PlacesTest(Checking):
    """Rule 8: where parts on a type and spreads stand."""

    def test_types_in_common(self):
        self.assert_accepted("me { ... on User { id } ... on Found { _type } }")
        self.assert_accepted("found { ... on User { id } ... on Item { code } ... on Found { _type } }")
        self.assert_accepted("found { ... on Thing { _type } }")
        self.assert_accepted("box { ... on Boxes { _type } ... on Thing { _type } }")

    def test_no_types_in_common(self):
        self.assert_broken((8,), on("User", "id"))
        self.assert_broken((8,), on("Found", "_type"))
        self.assert_broken((8,), "me { " + on("Query", "count") + " }")
        self.assert_broken((8,), "me { " + on("Item", "code") + " }")
        self.assert_broken((8,), "me { " + on("Thing", "_type") + " }")
        self.assert_broken((8,), "found { " + on("Box", "size") + " }")
        self.assert_broken((8,), "found { " + on("Boxes", "_type") + " }")
        self.assert_broken((8,), "found { " + on("Post", "id") + " }")
        self.assert_broken((8,), "me { ... { " + on("Box", "size") + " } }")

    def test_only_the_type_around_counts(self):
        self.assert_accepted("me { ... on Found { ... on Item { code } } }")
        self.assert_broken((8,), "found { ... on User { ... on Item { code } } }")
        self.assert_broken((8,), "... on User { ... on User { id } }")

    def test_spreads(self):
        fragments = "fragment F on User { id } fragment G on Thing { _type } fragment H on Query { count }"
        self.assert_accepted("...H me { ...F } found { ...F ...G } box { ...G }", "", fragments)
        for parts in ("...F", "...G", "me { ...H }", "me { ...G }", "box { ...F }", "... { ...F }"):
            self.assert_broken((8,), parts, "", fragments)

    def test_in_fragments(self):
        self.assert_broken((8,), "count", "", "fragment F on User { ... on Item { code } }")
        self.assert_broken((8,), "count", "", "fragment F on User { ...G } fragment G on Box { size }")
        self.assert_broken((8,), "count", "", "fragment F on Found { ... on Box { size } }")

    def test_rules_are_checked_inside(self):
        self.assert_broken((3, 4, 5, 6, 8), "... on User { nothing friend id(a: 1) name(short: 1) }")

    def test_conditions_do_not_matter(self):
        self.assert_broken((8,), "... on User @if(false) { id }")


class ConditionsTest(Checking):
    """Rule 10: the values of conditions."""

    def test_constants(self):
        for word in ("if", "unless"):
            for value in ("true", "false"):
                self.assert_accepted("count @" + word + "(" + value + ")")
            for value in ("1", "0", '"true"', '""', "null"):
                for part in ("count @{}({})", "...F @{}({})", "... @{}({}) {{ count }}", "me @{}({}) {{ id }}"):
                    self.assert_broken((10,), part.format(word, value), "", "fragment F on Query { count }")

    def test_variables(self):
        self.assert_accepted("count @if($a) @unless($a)", "$a: Truth!")
        self.assert_accepted("count @if($a)", "$a: Truth! = true")
        for kind in ("Truth", "Truth = true", "Int!", "Text!", "Int"):
            self.assert_broken((10,), "count @if($a)", "$a: " + kind)
        for kind in ("[Truth!]", "[Truth!]!", "Nothing!"):
            self.assert_broken((7, 10), "count @if($a)", "$a: " + kind)
        self.assert_broken((7,), "count @if($a)")
        self.assert_broken((7,), "count @if($a)", "$a: Truth! $a: Truth")
        self.assert_broken((7, 10), "count @if($a)", "$a: Truth $a: Truth!")

    def test_each_condition(self):
        self.assert_broken((10,), "count @if(true) @if(1)")
        self.assert_broken((10,), "count @if(1) @if(true)")
        self.assert_broken((10,), "count", "", "fragment F on User { id @if(1) }")

    def test_where_other_rules_are_not_checked(self):
        self.assert_broken((3, 10), "nothing @if(1)")
        self.assert_broken((3, 10), "nothing { nothing @if(1) }")
        self.assert_broken((3, 10), "nothing { ... on User { ... @if(1) { id } } }")
        self.assert_broken((3, 10), "found { name { id @if($a) } }", "$a: Int")
        self.assert_broken((4, 10), "count { id @if(null) }")
        self.assert_broken((8, 10), "... on User { id @if(1) }")


if __name__ == "__main__":
    unittest.main()

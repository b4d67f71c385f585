import unittest

from seamgraph.errors import InvalidDocument
from seamgraph.parser import Document, parse_document


def field(key, name=None, arguments=(), conditions=(), selection=None):
    return ("field", key, name or key, arguments, conditions, selection)


def selection_of(text):
    return parse_document("query " + text).selection


def kind_of(text):
    ((_, kind, _),) = parse_document("query($v: " + text + ") { a }").variables
    return kind


def value_of(text):
    ((_, _, _, arguments, _, _),) = selection_of("{ a(b: " + text + ") }")
    return arguments[0][1]


def default_of(text):
    ((_, _, default),) = parse_document("query($v: Int = " + text + ") { a }").variables
    return default


def nested(depth):
    return "{ a " * depth + "}" * depth


class Refusing(unittest.TestCase):
    def assert_refused(self, before, behind=""):
        """The word between the two texts is the first one that does not fit."""
        with self.assertRaises(InvalidDocument) as caught:
            parse_document(before + behind)
        self.assertEqual(caught.exception.place, len(before), before + behind)

    def assert_too_short(self, text):
        for blanks in ("", " ", "\n", " ,\n "):
            self.assert_refused(text + blanks)


class DocumentTest(unittest.TestCase):
    """Point 14: what parsing gives."""

    def test_the_smallest_document(self):
        document = parse_document("query{a}")
        self.assertEqual(document.variables, ())
        self.assertEqual(document.selection, (field("a"),))
        self.assertEqual(document.fragments, ())

    def test_a_document_with_everything(self):
        document = parse_document("""
            query ($a: Int! = 1, $b: [Text])
            {
                me { name, first: name(short: true, size: $a) @if($b) @unless(false) }
                ...F @if(true)
                ... on User @unless($b) { id }
                ... { _type }
            }
            fragment F on Query { me { id } }
            fragment G on Found { ...F }
        """)
        self.assertEqual(
            document.variables,
            (
                ("a", ("must", ("name", "Int")), ("number", 1)),
                ("b", ("list", ("name", "Text")), None),
            ),
        )
        first = field(
            "first",
            "name",
            (("short", ("truth", True)), ("size", ("variable", "a"))),
            (("if", ("variable", "b")), ("unless", ("truth", False))),
        )
        self.assertEqual(
            document.selection,
            (
                field("me", selection=(field("name"), first)),
                ("spread", "F", (("if", ("truth", True)),)),
                ("on", "User", (("unless", ("variable", "b")),), (field("id"),)),
                ("on", None, (), (field("_type"),)),
            ),
        )
        self.assertEqual(
            document.fragments,
            (
                ("F", "Query", (field("me", selection=(field("id"),)),)),
                ("G", "Found", (("spread", "F", ()),)),
            ),
        )

    def test_the_example(self):
        self.assertEqual(
            parse_document("query { a: b(c: $d) @if(true) }").selection,
            (("field", "a", "b", (("c", ("variable", "d")),), (("if", ("truth", True)),), None),),
        )

    def test_kinds_of_values(self):
        document = parse_document("query($a: Int = 1) { a { b } ...F ... { c } } fragment F on T { d }")
        self.assertIs(type(document), Document)
        self.assertIs(type(document.variables), tuple)
        self.assertIs(type(document.selection), tuple)
        self.assertIs(type(document.fragments), tuple)
        self.assertTrue(all(type(part) is tuple for part in document.selection))
        self.assertIs(type(document.selection[0][5]), tuple)
        self.assertIs(type(document.selection[2][3]), tuple)

    def test_constants(self):
        self.assertEqual(value_of("7"), ("number", 7))
        self.assertEqual(value_of("-0012"), ("number", -12))
        self.assertEqual(value_of("9999999999"), ("number", 9999999999))
        self.assertEqual(value_of('"a b"'), ("text", "a b"))
        self.assertEqual(value_of('""'), ("text", ""))
        self.assertEqual(value_of('"true"'), ("text", "true"))
        self.assertEqual(value_of("null"), ("null",))
        for text, truth in (("true", True), ("false", False)):
            self.assertEqual(value_of(text)[0], "truth")
            self.assertIs(value_of(text)[1], truth)

    def test_variables_as_values(self):
        self.assertEqual(value_of("$x"), ("variable", "x"))
        self.assertEqual(value_of("$true"), ("variable", "true"))

    def test_defaults(self):
        self.assertEqual(default_of("-3"), ("number", -3))
        self.assertEqual(default_of('"x"'), ("text", "x"))
        self.assertEqual(default_of("false"), ("truth", False))
        self.assertEqual(default_of("null"), ("null",))

    def test_declarations_are_kept_as_they_are(self):
        self.assertEqual(
            parse_document("query($a: Foo $a: Int) { a }").variables,
            (("a", ("name", "Foo"), None), ("a", ("name", "Int"), None)),
        )

    def test_fields(self):
        self.assertEqual(selection_of("{ a }"), (field("a"),))
        self.assertEqual(selection_of("{ a b a }"), (field("a"), field("b"), field("a")))
        self.assertEqual(selection_of("{ k: a }"), (field("k", "a"),))
        self.assertEqual(selection_of("{ a b: c d }"), (field("a"), field("b", "c"), field("d")))
        self.assertEqual(selection_of("{ a { b } c }"), (field("a", selection=(field("b"),)), field("c")))

    def test_arguments_are_kept_as_they_are(self):
        one, two = ("number", 1), ("number", 2)
        self.assertEqual(
            selection_of("{ a(y: 1 x: 2, y: 1) }"), (field("a", arguments=(("y", one), ("x", two), ("y", one))),)
        )

    def test_conditions_are_kept_in_order(self):
        yes, no = ("truth", True), ("text", "no")
        conditions = (("unless", no), ("if", yes), ("if", yes))
        self.assertEqual(
            selection_of('{ a @unless("no") @if(true) @if(true) { b } }'),
            (field("a", conditions=conditions, selection=(field("b"),)),),
        )
        self.assertEqual(selection_of('{ ...F @unless("no") @if(true) @if(true) }'), (("spread", "F", conditions),))
        self.assertEqual(
            selection_of('{ ... @unless("no") @if(true) @if(true) { b } }'), (("on", None, conditions, (field("b"),)),)
        )

    def test_spreads(self):
        self.assertEqual(selection_of("{ ...F }"), (("spread", "F", ()),))
        self.assertEqual(selection_of("{ ... F a }"), (("spread", "F", ()), field("a")))
        self.assertEqual(selection_of("{ ...F...G }"), (("spread", "F", ()), ("spread", "G", ())))
        self.assertEqual(selection_of("{ ...{ a } }"), (("on", None, (), (field("a"),)),))
        self.assertEqual(selection_of("{ ...on T { a } }"), (("on", "T", (), (field("a"),)),))
        self.assertEqual(selection_of("{ ... on on { a } }"), (("on", "on", (), (field("a"),)),))
        self.assertEqual(selection_of("{ ...onT }"), (("spread", "onT", ()),))

    def test_equality(self):
        text = "query($a: Int) { a ...F } fragment F on T { b }"
        document = parse_document(text)
        self.assertTrue(document == parse_document(text.replace(" ", "  ")))
        self.assertFalse(document != parse_document(text))
        for other in (
            "query($b: Int) { a ...F } fragment F on T { b }",
            "query($a: Int) { c ...F } fragment F on T { b }",
            "query($a: Int) { a ...F } fragment F on T { c }",
            "query($a: Int) { a ...F }",
            "query { a ...F } fragment F on T { b }",
        ):
            self.assertFalse(document == parse_document(other))
            self.assertTrue(document != parse_document(other))
        self.assertFalse(document == (document.variables, document.selection, document.fragments))
        self.assertFalse(document == None)  # noqa: E711

    def test_true_is_not_one(self):
        self.assertNotEqual(parse_document("query { a(b: true) }"), parse_document("query { a(b: 1) }"))

    def test_documents_are_made_of_their_attributes(self):
        selection = (field("a"),)
        document = Document(variables=(), selection=selection, fragments=())
        self.assertEqual(document, parse_document("query { a }"))
        self.assertIs(document.selection, selection)
        self.assertIn("__eq__", vars(Document))


class GrammarTest(Refusing):
    """Points 12 and 13: the rules, and the places where texts break them."""

    def test_words_are_names_where_names_stand(self):
        for name in ("query", "fragment", "on", "if", "unless", "true", "false", "null", "Int", "a" * 30):
            self.assertEqual(selection_of("{ " + name + " }"), (field(name),))
            self.assertEqual(
                selection_of("{ " + name + ": " + name + "(" + name + ": 1) }"),
                (field(name, arguments=((name, ("number", 1)),)),),
            )
            self.assertEqual(kind_of(name), ("name", name))
            text = "query($" + name + ": Int) { a } fragment F on " + name + " { a }"
            self.assertEqual(parse_document(text).variables[0][0], name)
            self.assertEqual(parse_document(text).fragments[0][1], name)
            if name != "on":
                self.assertEqual(selection_of("{ ..." + name + " }"), (("spread", name, ()),))
                text = "query { a } fragment " + name + " on T { a }"
                self.assertEqual(parse_document(text).fragments[0][0], name)

    def test_words_that_touch(self):
        self.assertEqual(
            parse_document('query($a:Int=1$b:Text="x"){a(b:12c:"d"e:$f)@if(true)...F...on T{b}}'),
            parse_document('query ($a: Int = 1, $b: Text = "x") { a(b: 12, c: "d", e: $f) @if(true) ...F ...on T { b } }'),
        )

    def test_commas_are_blanks(self):
        self.assertEqual(selection_of(",{,a,:,b,(,c,:,1,),},"), selection_of("{ a: b(c: 1) }"))

    def test_an_empty_text(self):
        self.assert_too_short("")

    def test_the_word_query(self):
        self.assert_refused("", "{ a }")
        self.assert_refused("", "Query { a }")
        self.assert_refused(" ", '"query" { a }')
        self.assert_refused("", "$query { a }")
        self.assert_too_short("query")
        self.assert_refused("query ", "a { a }")
        self.assert_refused("query ", "@if(true) { a }")

    def test_declarations(self):
        self.assert_refused("query(", ") { a }")
        self.assert_refused("query(", "a: Int) { a }")
        self.assert_refused("query($a ", "Int) { a }")
        self.assert_refused("query($a: ", ") { a }")
        self.assert_refused("query($a: Int ", "Int) { a }")
        self.assert_refused("query($a: Int ", "1) { a }")
        self.assert_refused("query($a: Int = ", ") { a }")
        self.assert_refused("query($a: Int = ", "$b) { a }")
        self.assert_refused("query($a: Int = ", "$true) { a }")
        self.assert_refused("query($a: Int = ", "yes) { a }")
        self.assert_refused("query($a: Int = 1 ", "2) { a }")
        self.assert_refused("query($a: Int = 1 ", "= 2) { a }")
        self.assert_refused("query($a: Int) ", "($b: Int) { a }")
        for text in ("query(", "query($a", "query($a:", "query($a: Int", "query($a: Int =", "query($a: Int = 1"):
            self.assert_too_short(text)
        self.assert_too_short("query($a: Int)")

    def test_types(self):
        self.assertEqual(kind_of("Int"), ("name", "Int"))
        self.assertEqual(kind_of("Int!"), ("must", ("name", "Int")))
        self.assertEqual(kind_of("[Int!]"), ("list", ("must", ("name", "Int"))))
        self.assertEqual(kind_of("[ [\nInt ] , ! ] !"), ("must", ("list", ("must", ("list", ("name", "Int"))))))
        self.assert_refused("query($a: ", "!) { a }")
        self.assert_refused("query($a: Int!", "!) { a }")
        self.assert_refused("query($a: Int! ", "! = 1) { a }")
        self.assert_refused("query($a: Int", "]) { a }")
        self.assert_refused("query($a: [", "]) { a }")
        self.assert_refused("query($a: [Int ", ") { a }")
        self.assert_refused("query($a: [Int ", "Int]) { a }")
        self.assert_refused("query($a: [Int]!", "!) { a }")
        self.assert_refused("query($a: ", "1) { a }")
        self.assert_too_short("query($a: [")
        self.assert_too_short("query($a: [[Int]")

    def test_lists_in_types(self):
        five = "[" * 5 + "Int" + "]" * 5
        kind = ("name", "Int")
        for _ in range(5):
            kind = ("list", kind)
        self.assertEqual(kind_of(five), kind)
        self.assertEqual(kind_of("[[[[[Int!]!]!]!]!]!")[0], "must")
        self.assert_refused("query($a: [[[[[", "[Int]]]]]]) { a }")
        self.assert_refused("query($a: [ [ [ [ [ ", "[ [")
        self.assert_refused("query($a: [[[[[Int]]]]] $b: [[[[[", "[Int]]]]]]) { a }")

    def test_selections(self):
        self.assert_refused("query {", "}")
        self.assert_refused("query { ", "{ a } }")
        self.assert_refused("query { a { ", "} }")
        self.assert_refused("query { a ", "1 }")
        self.assert_refused("query { a ", "$b }")
        self.assert_refused("query { a ", "= 1 }")
        self.assert_refused("query { a } ", "}")
        self.assert_refused("query { a } ", "{ a }")
        self.assert_refused("query { a } ", "query { a }")
        self.assert_too_short("query {")
        self.assert_too_short("query { a")
        self.assert_too_short("query { a { b }")

    def test_keys(self):
        self.assert_refused("query { a: ", "}")
        self.assert_refused("query { a: b", ": c }")
        self.assert_refused("query { a: ", "$b }")
        self.assert_refused("query { ", ": a }")
        self.assert_too_short("query { a:")

    def test_the_field_type(self):
        self.assertEqual(selection_of("{ _type }"), (field("_type"),))
        self.assertEqual(selection_of("{ a: _type }"), (field("a", "_type"),))
        self.assertEqual(
            selection_of("{ _type(a: 1) @if(true) { b } }"),
            (field("_type", None, (("a", ("number", 1)),), (("if", ("truth", True)),), (field("b"),)),),
        )
        self.assert_refused("query { _type", ": a }")
        self.assert_refused("query { _type ", ": _type }")
        self.assert_refused("query { a: _type ", ": b }")
        self.assert_too_short("query { _type")

    def test_the_field_type_is_no_other_name(self):
        self.assert_refused("", "_type { a }")
        self.assert_refused("query { a(", "_type: 1) }")
        self.assert_refused("query { ...", "_type }")
        self.assert_refused("query { ... on ", "_type { a } }")
        self.assert_refused("query($a: ", "_type) { a }")
        self.assert_refused("query($a: [", "_type]) { a }")
        self.assert_refused("query { a } fragment ", "_type on T { a }")
        self.assert_refused("query { a } fragment F on ", "_type { a }")
        self.assert_refused("query { a @", "_type(true) }")
        self.assert_refused("query { a(b: ", "_type) }")

    def test_arguments(self):
        self.assert_refused("query { a(", ") }")
        self.assert_refused("query { a(b", ") }")
        self.assert_refused("query { a(b ", "1) }")
        self.assert_refused("query { a(b: ", ") }")
        self.assert_refused("query { a(b: ", "c) }")
        self.assert_refused("query { a(b: ", "[1]) }")
        self.assert_refused("query { a(b: 1 ", "2) }")
        self.assert_refused("query { a(b: 1", "} }")
        self.assert_refused("query { a(", "$b: 1) }")
        self.assert_refused("query { a(b: 1)", "(c: 2) }")
        self.assert_refused("query { a @if(true) ", "(c: 2) }")
        self.assert_refused("query { a { b } ", "(c: 2) }")
        for text in ("query { a(", "query { a(b", "query { a(b:", "query { a(b: 1", "query { a(b: $c)"):
            self.assert_too_short(text)

    def test_conditions(self):
        self.assert_refused("query { a @", "when(true) }")
        self.assert_refused("query { a @", "(true) }")
        self.assert_refused("query { a @if ", "true }")
        self.assert_refused("query { a @if(", ") }")
        self.assert_refused("query { a @if(", "b) }")
        self.assert_refused("query { a @if(true ", "false) }")
        self.assert_refused("query { a @if(true ", "} }")
        self.assert_refused("query { a { b } ", "@if(true) }")
        self.assert_refused("query { ", "@if(true) a }")
        for text in ("query { a @", "query { a @if", "query { a @unless(", "query { a @if($b", "query { a @if($b)"):
            self.assert_too_short(text)

    def test_places_of_spreads(self):
        self.assert_refused("query { ...", "}")
        self.assert_refused("query { ... ", "... }")
        self.assert_refused("query { ...", "1 }")
        self.assert_refused("query { ...F ", "{ a } }")
        self.assert_refused("query { ...F ", "(a: 1) }")
        self.assert_refused("query { ...F", ": a }")
        self.assert_refused("query { ...F @if(true) ", "{ a } }")
        self.assert_refused("query { ... on ", "{ a } }")
        self.assert_refused("query { ... on ", "@if(true) }")
        self.assert_refused("query { ... on ", "}")
        self.assert_refused("query { ... on T ", "}")
        self.assert_refused("query { ... on T ", "a }")
        self.assert_refused("query { ... on T ", "(a: 1) { a } }")
        self.assert_refused("query { ... on T @if(true) ", "}")
        self.assert_refused("query { ... on T @if(true) ", "a")
        self.assert_refused("query { ... @if(true) ", "F }")
        self.assert_refused("query { ... @if(true) ", "}")
        self.assert_refused("query { ... on T { ", "} }")
        for text in ("query { ...", "query { ... on", "query { ... on T", "query { ... @if(true)", "query { ...F"):
            self.assert_too_short(text)

    def test_fragments(self):
        self.assert_refused("query { a } ", "F on T { a }")
        self.assert_refused("query { a } ", "fragments F on T { a }")
        self.assert_refused("query { a } fragment ", "{ a }")
        self.assert_refused("query { a } fragment F ", "T { a }")
        self.assert_refused("query { a } fragment F ", "{ a }")
        self.assert_refused("query { a } fragment F on ", "{ a }")
        self.assert_refused("query { a } fragment F on T ", "fragment")
        self.assert_refused("query { a } fragment F on T {", "}")
        self.assert_refused("query { a } fragment F on T { a } ", "a")
        self.assert_refused("", "fragment F on T { a } query { a }")
        for text in ("fragment", "fragment F", "fragment F on", "fragment F on T", "fragment F on T { a"):
            self.assert_too_short("query { a } " + text)

    def test_the_conditions_of_a_fragment_are_missing(self):
        self.assert_refused("query { a } fragment F on T ", "@if(true) { a }")
        self.assert_refused("query { a } fragment F on T ", "@unless($b) { a }")

    def test_a_fragment_is_not_named_on(self):
        self.assert_refused("query { a } fragment ", "on on T { a }")
        self.assert_refused("query { a } fragment ", "on T { a }")
        text = "query { a } fragment F on on { a } fragment On on T { a }"
        self.assertEqual([name for name, _, _ in parse_document(text).fragments], ["F", "On"])


class LimitsTest(Refusing):
    """Points 12 and 13: how deep selections are, and how many fragments there are."""

    def assert_deep(self, before, behind):
        """A selection stands between the texts; it may be ten deep."""
        parse_document(before + nested(10) + behind)
        self.assert_refused(before + "{ a " * 10, nested(1) + " }" * 10 + behind)
        self.assert_refused(before + "{ a " * 10, "{")

    def test_the_operation(self):
        self.assert_deep("query ", "")
        self.assert_deep("query($a: Int) ", " fragment F on T { a }")

    def test_a_fragment(self):
        self.assert_deep("query { a } fragment F on T ", "")
        self.assert_deep("query " + nested(10) + " fragment F on T ", " fragment G on T " + nested(10))

    def test_selections_beside_each_other(self):
        parse_document("query { a " + nested(9) + " b " + nested(9) + " c { d } }")
        parse_document("query { a { b } c { d } e { f } g { h } i { j } k { l } m { n } o { p } q { r } s { t } u { v } }")

    def test_parts_on_a_type_are_selections(self):
        for on in ("...", "... on T ", "... @if(true) ", "... on T @if(true) "):
            text = ("{ " + on) * 9 + "{ a }" + " }" * 9
            parse_document("query " + text)
            self.assert_refused("query " + ("{ " + on) * 10, "{ a }" + " }" * 10)

    def test_what_does_not_fit_before_the_depth_is_reached(self):
        self.assert_refused("query " + "{ a " * 9 + "{ ... on T ", "}" * 10)
        self.assert_refused("query " + "{ a " * 10 + "... on T ", "a")
        self.assert_refused("query " + "{ a " * 9 + "{ ... @if(true) ", "a")
        self.assert_refused("query " + "{ a " * 9 + "{ ", "{")

    def test_the_number_of_fragments(self):
        fragments = ["fragment F on T { a }"] * 10
        self.assertEqual(len(parse_document("query { a } " + " ".join(fragments)).fragments), 10)
        self.assert_refused("query { a } " + " ".join(fragments) + " ", "fragment F on T { a }")
        self.assert_refused("query { a } " + " ".join(fragments) + " ", "fragment")
        self.assert_refused("query { a } " + " ".join(fragments) + " ", "a")

    def test_words_are_split_before(self):
        with self.assertRaises(InvalidDocument) as caught:
            parse_document("} query { #")
        self.assertEqual(caught.exception.place, 10)
        with self.assertRaises(InvalidDocument) as caught:
            parse_document("query query { " + "a" * 31)
        self.assertEqual(caught.exception.place, 14)
        with self.assertRaises(InvalidDocument) as caught:
            parse_document('query { a } } "')
        self.assertEqual(caught.exception.place, 14)


if __name__ == "__main__":
    unittest.main()

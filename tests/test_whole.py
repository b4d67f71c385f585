"""Points 19 and 20: the values of fields, and the response with its errors."""

import copy
import unittest

from seamgraph.checking import broken_rules
from seamgraph.gateway import Gateway
from seamgraph.parser import parse_document
from seamgraph.schema import Service, compose
from seamgraph.store import Store
from seamgraph.whole import execute

from world import SCHEMA, stores


def respond(text, given=None, down=(), roots=None, records=None):
    document = parse_document("query " + text)
    assert broken_rules(SCHEMA, document) == (), broken_rules(SCHEMA, document)
    data = stores(roots, records)
    response = execute(SCHEMA, data, down, document, given or {})
    assert repr(Gateway(SCHEMA, data, down).run(document, given or {})) == repr(response)
    return response


class ValuesTest(unittest.TestCase):
    def check(self, text, data, errors=(), **more):
        found = respond(text, **more)
        self.assertIsInstance(found, tuple)
        self.assertEqual(repr(found), repr((data, list(errors))))

    def test_scalars_and_keys(self):
        self.check("{ count me { id name age } }", {"count": 33, "me": {"id": 1, "name": "Ann Smith", "age": 30}})
        self.check("{ latest { c: code title score } }", {"latest": {"c": "p2", "title": "Second", "score": 7}})

    def test_arguments(self):
        text = "($s: Truth) { me { name(short: $s) full: name karma(scale: 2) other: karma(scale: 3) } }"
        self.check(text, {"me": {"name": "Ann", "full": "Ann Smith", "karma": 20, "other": None}}, given={"s": True})
        self.check("{ user(id: 2, near: true) { name } a: user(id: 2) { id } }", {"user": {"name": "Bob Jones"}, "a": None})

    def test_names_of_types(self):
        self.check(
            "{ _type found { _type a: _type } me { _type home { _type } } }",
            {
                "_type": "Query",
                "found": [
                    {"_type": "Post", "a": "Post"},
                    {"_type": "Note", "a": "Note"},
                    {"_type": "User", "a": "User"},
                ],
                "me": {"_type": "User", "home": {"_type": "Home"}},
            },
        )

    def test_fields_of_objects(self):
        self.check(
            "{ me { home { town a: town(upper: true) owner { id } next { town } } homes { town } } }",
            {"me": {"home": {"town": "Rome", "a": "ROME", "owner": None, "next": None}, "homes": []}},
        )
        self.check(
            "{ found { ... on Note { text post { title score } by { name karma } } } }",
            {
                "found": [
                    {},
                    {"text": "hi", "post": {"title": "Second", "score": 7}, "by": {"name": "Ann Smith", "karma": 10}},
                    {},
                ],
            },
        )

    def test_entities_of_several_services(self):
        self.check(
            "{ me { rival { name posts { code } rival { id karma name } } } }",
            {"me": {"rival": {"name": "Bob Jones", "posts": [], "rival": {"id": 1, "karma": 10, "name": "Ann Smith"}}}},
        )

    def test_lists(self):
        self.check("{ grid }", {"grid": [[1, 2], [], [3]]})
        self.check(
            "{ me { posts { voters { id } } } }",
            {"me": {"posts": [{"voters": [{"id": 2}, None, {"id": 1}]}, {"voters": []}]}},
        )

    def test_services_that_are_down(self):
        self.check(
            "{ me { id } latest { code } }",
            {"me": None, "latest": {"code": "p2"}},
            [(("me",), "down users")],
            down=("users",),
        )
        self.check(
            "{ me { id _type name karma posts { code } } }",
            {"me": {"id": 1, "_type": "User", "name": "Ann Smith", "karma": None, "posts": None}},
            [(("me", "karma"), "down Votes"), (("me", "posts"), "down posts")],
            down=("posts", "Votes"),
        )
        self.check("{ me { id } a: count }", {"me": {"id": 1}, "a": 33}, down=("posts", "other"))

    def test_entities_without_a_record(self):
        self.check(
            "{ me { id name karma } }",
            {"me": {"id": 1, "name": "Ann Smith", "karma": None}},
            [(("me", "karma"), "unknown")],
            records={"Votes": {("User", 2): {}, ("Post", "1"): {}}},
        )
        self.check(
            "{ me { _type id age } }",
            {"me": None},
            [(("me", "age"), "unknown")],
            roots={"users": {"me": ("ref", "User", 3)}},
        )
        self.check("{ me { _type id } }", {"me": {"_type": "User", "id": 3}}, roots={"users": {"me": ("ref", "User", 3)}})

    def test_a_service_that_is_down_goes_before_a_missing_record(self):
        self.check("{ me { name } }", {"me": None}, [(("me",), "down users")], down=("users",), records={"users": {}})

    def test_an_object_whose_owner_is_up(self):
        self.check("{ found { ... on Note { text } } }", {"found": [{}, {"text": "hi"}, {}]}, down=("users", "Votes"))


LINE = (("a", "Int"), ("b", "Int!"), ("c", "[Int]"), ("d", "[Int!]"), ("e", "[Int!]!"), ("f", "[[Int!]!]!"))
NODE = LINE + (("g", "Box"), ("h", "Box!"), ("i", "[Box]"), ("j", "[Box!]!"), ("k", "[[Box!]]"), ("m", "Thing!"))
PLAIN = Service(
    "main",
    (
        ("Query", None, tuple((name, (), text) for name, text in NODE)),
        ("Box", None, tuple((name, (), text) for name, text in NODE)),
        ("User", "id", (("id", (), "Text!"), ("name", (), "Text!"))),
    ),
    (("Thing", ("User", "Box")),),
)
PLAIN_SCHEMA = compose([PLAIN])


def box(**fields):
    return ("object", "Box", fields)


class CompletingTest(unittest.TestCase):
    def check(self, text, roots, data, errors=()):
        document = parse_document("query " + text)
        self.assertEqual(broken_rules(PLAIN_SCHEMA, document), ())
        before = copy.deepcopy(roots)
        data_of_store = [Store(PLAIN, roots, {})]
        response = execute(PLAIN_SCHEMA, data_of_store, (), document, {})
        self.assertEqual(repr(response), repr((data, list(errors))))
        self.assertEqual(repr(Gateway(PLAIN_SCHEMA, data_of_store, ()).run(document, {})), repr(response))
        self.assertEqual(repr(roots), repr(before))

    def test_none(self):
        self.check("{ a c d g { a } i { a } k { a } }", {}, dict.fromkeys("acdgik"))

    def test_failures(self):
        fails = ("fails", "late")
        self.check("{ a c }", {"a": fails, "c": fails}, {"a": None, "c": None}, [(("a",), "late"), (("c",), "late")])
        self.check("{ c }", {"c": [1, fails, None]}, {"c": [1, None, None]}, [(("c", 1), "late")])
        self.check("{ g { a } }", {"g": fails}, {"g": None}, [(("g",), "late")])
        self.check("{ i { a } }", {"i": [fails, box(a=1)]}, {"i": [None, {"a": 1}]}, [(("i", 0), "late")])

    def test_values_that_do_not_fit(self):
        self.check(
            "{ x: a c g { a } i { a } }",
            {"a": True, "c": [1, "1"], "g": [], "i": [box(a="x"), ("ref", "User", "u")]},
            {"x": None, "c": [1, None], "g": None, "i": [{"a": None}, None]},
            [
                (("x",), "bad value"),
                (("c", 1), "bad value"),
                (("g",), "bad value"),
                (("i", 0, "a"), "bad value"),
                (("i", 1), "bad value"),
            ],
        )

    def test_missing_values_climb_to_the_root(self):
        self.check("{ a b }", {"a": 1}, None, [(("b",), "null")])
        self.check("{ h { a } }", {}, None, [(("h",), "null")])
        self.check("{ e }", {}, None, [(("e",), "null")])
        self.check("{ h { h { h { b } } } }", {"h": box(h=box(h=box()))}, None, [(("h", "h", "h", "b"), "null")])

    def test_failures_climb_with_one_error(self):
        self.check("{ a b }", {"a": 1, "b": ("fails", "late")}, None, [(("b",), "late")])
        self.check("{ h { b } }", {"h": box(b="x")}, None, [(("h", "b"), "bad value")])
        self.check("{ e }", {"e": [1, ("fails", "late")]}, None, [(("e", 1), "late")])

    def test_what_climbs_stops_at_what_may_be_null(self):
        self.check("{ a g { b } }", {"a": 1, "g": box()}, {"a": 1, "g": None}, [(("g", "b"), "null")])
        self.check("{ g { h { b } } }", {"g": box(h=box())}, {"g": None}, [(("g", "h", "b"), "null")])
        self.check("{ g { g { h { b } } a } }", {"g": box(a=1, g=box(h=box()))}, {"g": {"g": None, "a": 1}}, [
            (("g", "g", "h", "b"), "null"),
        ])

    def test_lists(self):
        self.check("{ d }", {"d": [1, None, 2]}, {"d": None}, [(("d", 1), "null")])
        self.check("{ d }", {"d": []}, {"d": []})
        self.check("{ f }", {"f": [[1], []]}, {"f": [[1], []]})
        self.check("{ f }", {"f": [[1], [None]]}, None, [(("f", 1, 0), "null")])
        self.check("{ i { b } }", {"i": [box(b=1), box(), None]}, {"i": [{"b": 1}, None, None]}, [(("i", 1, "b"), "null")])
        self.check("{ k { b } }", {"k": [[box(b=1)], [box(b=2), box()], None, []]}, {"k": [[{"b": 1}], None, None, []]}, [
            (("k", 1, 1, "b"), "null"),
        ])

    def test_all_elements_and_groups_are_completed(self):
        fails = ("fails", "late")
        self.check("{ e }", {"e": [None, fails, "x", None]}, None, [
            (("e", 0), "null"),
            (("e", 1), "late"),
            (("e", 2), "bad value"),
            (("e", 3), "null"),
        ])
        self.check("{ b g { b x: b a c } h { a } a }", {"g": box(a=fails, c=[fails]), "h": fails, "a": "y"}, None, [
            (("b",), "null"),
            (("g", "b"), "null"),
            (("g", "x"), "null"),
            (("g", "a"), "late"),
            (("g", "c", 0), "late"),
            (("h",), "late"),
            (("a",), "bad value"),
        ])
        self.check("{ j { b a } a }", {"j": [box(), box(b=1, a=[]), None], "a": 5}, None, [
            (("j", 0, "b"), "null"),
            (("j", 1, "a"), "bad value"),
            (("j", 2), "null"),
        ])

    def test_errors_inside_what_gives_null_stay(self):
        self.check("{ g { b a } c }", {"g": box(a="x"), "c": 1}, {"g": None, "c": None}, [
            (("g", "b"), "null"),
            (("g", "a"), "bad value"),
            (("c",), "bad value"),
        ])

    def test_unions(self):
        self.check("{ m { _type ... on Box { a } ... on User { id } } }", {"m": box(a=1)}, {"m": {"_type": "Box", "a": 1}})
        self.check(
            "{ g { m { ... on Box { a } ... on User { id name } } } a }",
            {"g": box(m=("ref", "User", "u")), "a": 1},
            {"g": None, "a": 1},
            [(("g", "m", "name"), "unknown")],
        )

    def test_groups_in_order(self):
        self.check(
            "{ c g { x: a b } a ... { g { c a } } }",
            {"c": [], "a": 1, "g": box(a=2, b=3, c=[4])},
            {"c": [], "g": {"x": 2, "b": 3, "c": [4], "a": 2}, "a": 1},
        )

    def test_empty_objects(self):
        self.check("{ a @if(false) }", {"a": 1}, {})
        self.check("{ g { b @if(false) } h { b @unless(true) } }", {"g": box(), "h": box()}, {"g": {}, "h": {}})

    def test_zeros_and_empty_texts_are_no_nulls(self):
        self.check("{ b e h { e } }", {"b": 0, "e": [0], "h": box(e=[])}, {"b": 0, "e": [0], "h": {"e": []}})

    def test_the_data_are_not_shared(self):
        roots = {"c": [1, 2]}
        document = parse_document("query { c }")
        data, errors = execute(PLAIN_SCHEMA, [Store(PLAIN, roots, {})], (), document, {})
        data["c"].append(3)
        errors.append(3)
        self.assertEqual(roots, {"c": [1, 2]})
        self.assertEqual(execute(PLAIN_SCHEMA, [Store(PLAIN, roots, {})], (), document, {}), ({"c": [1, 2]}, []))


if __name__ == "__main__":
    unittest.main()

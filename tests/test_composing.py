import itertools
import unittest

from seamgraph.errors import InvalidSchema, SeamError
from seamgraph.schema import Service, compose


def service(name, types=(), unions=()):
    return Service(name, types, unions)


def entity(name, *fields, key="id", text="Int!"):
    return (name, key, ((key, (), text),) + fields)


def plain(name, *fields):
    return (name, None, fields)


def field(name, text="Int", *params):
    return (name, params, text)


def with_field(*shown):
    """A service that is in order, but for these fields of one of its types."""
    types = (plain("Ball", *shown), entity("Owner"), plain("Query"))
    return [service("balls", types, (("Any", ("Ball", "Owner")),))]


def with_key(key, *fields):
    return [service("keyed", (("Keyed", key, fields),))]


def with_members(*members):
    types = (plain("Ball", field("size")), entity("Owner"), plain("Query"))
    return [service("unions", types, (("Any", members), ("Other", ("Ball",))))]


# Services that compose on their own and beside each of the broken ones.
GOOD = [
    service("good", (plain("Query", field("start", "Good")), entity("Good", field("size"))), (("Best", ("Good",)),)),
    service("more", (entity("Good", field("weight")), entity("Far"))),
]

# For each rule, lists of services that break it and nothing else.
BROKEN = {
    1: {
        "service without a name": [service("")],
        "service named with a sign": [service("a-b")],
        "service with a long name": [service("a" * 31)],
        "service with an underscore in front": [service("_a")],
        "two services of one name": [service("twin"), service("twin")],
        "a service with a name of the good ones": [service("more")],
        "type that is no name": [service("s", (plain("1a"),))],
        "type with a long name": [service("s", (plain("T" * 31),))],
        "types of one name": [service("s", (plain("Twin"), plain("Twin")))],
        "types of one name with keys": [service("s", (entity("Twin"), entity("Twin")))],
        "Query twice": [service("s", (plain("Query"), plain("Query")))],
        "type Int": [service("s", (plain("Int"),))],
        "type Text": [service("s", (plain("Text"),))],
        "type Truth": [service("s", (plain("Truth"),))],
        "union that is no name": [service("s", (plain("A"),), (("a b", ("A",)),))],
        "unions of one name": [service("s", (plain("A"),), (("U", ("A",)), ("U", ("A",))))],
        "union Text": [service("s", (plain("A"),), (("Text", ("A",)),))],
        "union with the name of a type": [service("s", (plain("A"), plain("B")), (("B", ("A",)),))],
        "field that is no name": with_field(field("")),
        "field _type": with_field(field("_type", "Text!")),
        "field with a long name": with_field(field("f" * 31)),
        "fields of one name": with_field(field("f"), field("f")),
        "fields of one name, other types": with_field(field("f"), field("g"), field("f", "Text")),
        "param that is no name": with_field(field("f", "Int", ("a!", "Int", None))),
        "param with a long name": with_field(field("f", "Int", ("p" * 31, "Int", None))),
        "params of one name": with_field(field("f", "Int", ("p", "Int", None), ("p", "Text", None))),
    },
    2: {
        "field without a type": with_field(field("f", "")),
        "field with two marks": with_field(field("f", "Int!!")),
        "field with an open bracket": with_field(field("f", "[Int")),
        "field with a space": with_field(field("f", "Int ")),
        "field six lists deep": with_field(field("f", "[[[[[[Int]]]]]]")),
        "unknown base": with_field(field("f", "Unknown")),
        "unknown base in a list": with_field(field("f"), field("g", "[Unknown!]")),
        "base in another case": with_field(field("f", "int")),
        "type of another service": with_field(field("f", "Good")),
        "union of another service": with_field(field("f", "[Best]")),
        "Query as the base": with_field(field("f", "Query")),
        "Query as the base in a list": with_field(field("f", "[Query!]!")),
        "param without a type": with_field(field("f", "Int", ("p", "", None))),
        "param with a mark in front": with_field(field("f", "Int", ("p", "!Int", None))),
        "param with a list": with_field(field("f", "Int", ("p", "[Int]", None))),
        "param with a list that must be": with_field(field("f", "Int", ("p", "[Int!]!", None))),
        "param with a type": with_field(field("f", "Int", ("p", "Ball", None))),
        "param with a union": with_field(field("f", "Int", ("p", "Any!", None))),
        "param with an unknown base": with_field(field("f", "Int", ("p", "Unknown", None))),
        "second param": with_field(field("f", "Int", ("p", "Int", 1), ("q", "Int", "1"))),
        "default True for Int": with_field(field("f", "Int", ("p", "Int", True))),
        "default False for Int": with_field(field("f", "Int", ("p", "Int", False))),
        "default 0 for Truth": with_field(field("f", "Int", ("p", "Truth", 0))),
        "default 1 for Truth": with_field(field("f", "Int", ("p", "Truth!", 1))),
        "default above Int": with_field(field("f", "Int", ("p", "Int", 2147483648))),
        "default below Int": with_field(field("f", "Int", ("p", "Int!", -2147483649))),
        "default 0 for Text": with_field(field("f", "Int", ("p", "Text", 0))),
        "empty default for Int": with_field(field("f", "Int", ("p", "Int", ""))),
        "default with the excepted character": with_field(field("f", "Int", ("p", "Text", "a%b"))),
        "default with a line feed": with_field(field("f", "Int", ("p", "Text", "a\n"))),
    },
    3: {
        "key that is no field": with_key("id", field("code", "Int!")),
        "key of a type without fields": with_key("id"),
        "key with an empty name": with_key("", field("id", "Int!")),
        "key without a mark": with_key("id", field("id", "Int")),
        "key Text without a mark": with_key("id", field("id", "Text")),
        "key Truth": with_key("id", field("id", "Truth!")),
        "key that is a list": with_key("id", field("id", "[Int!]!")),
        "key that is an object": with_key("id", field("id", "Keyed!")),
        "key with a param": with_key("id", field("id", "Int!", ("p", "Int", None))),
        "other field could be the key": with_key("id", field("id", "Text"), field("code", "Text!")),
        "Query with a key": [service("s", (entity("Query"),))],
        "Query with a key that is no field": [service("s", (("Query", "id", ()),))],
    },
    4: {
        "union without members": with_members(),
        "member twice": with_members("Ball", "Owner", "Ball"),
        "unknown member": with_members("Ball", "Unknown"),
        "member that is a scalar": with_members("Int"),
        "member that is a union": with_members("Other"),
        "member that is the union itself": with_members("Any"),
        "member Query": with_members("Ball", "Query"),
        "member of another service": with_members("Good"),
        "unions of one name in two services": [
            service("s", (entity("A"),), (("Pair", ("A",)),)),
            service("t", (entity("A"),), (("Pair", ("A",)),)),
        ],
        "union with the name of a type of an earlier service": [service("s", (plain("A"),), (("Good", ("A",)),))],
        "union with the name of a type of a later service": [
            service("s", (plain("A"),), (("Late", ("A",)),)),
            service("t", (plain("Late"),)),
        ],
        "union Query": [service("s", (plain("A"),), (("Query", ("A",)),))],
    },
    5: {
        "no keys": [service("s", (plain("Shared"),)), service("t", (plain("Shared"),))],
        "no keys, other fields": [
            service("s", (plain("Shared", field("a")),)),
            service("t", (plain("Shared", field("b")),)),
        ],
        "key in the first only": [service("s", (entity("Shared"),)), service("t", (plain("Shared"),))],
        "key in the second only": [service("s", (plain("Shared"),)), service("t", (entity("Shared"),))],
        "key in the second of three missing": [
            service("s", (entity("Shared"),)),
            service("t", (plain("Shared"),)),
            service("u", (entity("Shared"),)),
        ],
        "keys of other names": [
            service("s", (entity("Shared"),)),
            service("t", (entity("Shared", key="code"),)),
        ],
        "keys of other types": [
            service("s", (entity("Shared"),)),
            service("t", (entity("Shared", text="Text!"),)),
        ],
        "third key of another type": [
            service("s", (entity("Shared"),)),
            service("t", (entity("Shared"),)),
            service("u", (entity("Shared", text="Text!"),)),
        ],
    },
    6: {
        "field of an entity": [
            service("s", (entity("Shared", field("a")),)),
            service("t", (entity("Shared", field("a")),)),
        ],
        "field of an entity with other types": [
            service("s", (entity("Shared", field("a", "Int"), field("b")),)),
            service("t", (entity("Shared", field("c"), field("a", "Text", ("p", "Int", 1))),)),
        ],
        "field of the first and the third service": [
            service("s", (entity("Shared", field("a")),)),
            service("t", (entity("Shared"),)),
            service("u", (entity("Shared", field("a")),)),
        ],
        "field of Query": [
            service("s", (plain("Query", field("a")),)),
            service("t", (plain("Query", field("a")),)),
        ],
    },
}

# These break rule 7: the good services, but without a field of Query.
ROOTLESS = [
    service("good", (entity("Good", field("size")),), (("Best", ("Good",)),)),
    service("more", (entity("Good", field("weight")), entity("Far"))),
]


class ComposingTest(unittest.TestCase):
    def refuse(self, services, rule, words=None):
        with self.assertRaises(InvalidSchema, msg=words) as caught:
            compose(services)
        self.assertEqual(caught.exception.rule, rule, words)
        self.assertIsInstance(caught.exception, SeamError)

    def test_good_services(self):
        compose(GOOD)

    def test_each_rule_alone(self):
        for rule, cases in BROKEN.items():
            for words, services in cases.items():
                with self.subTest(rule=rule, words=words):
                    self.refuse(GOOD + services, rule, words)
                    self.refuse(services + GOOD, rule, words)

    def test_rule_seven(self):
        rootless = (
            [],
            [service("only")],
            ROOTLESS,
            ROOTLESS + [service("root", (plain("Query"),))],
            ROOTLESS + [service("root", (plain("Query"),)), service("other", (plain("Query"),))],
        )
        for services in rootless:
            self.refuse(services, 7)
        compose(ROOTLESS + [service("root", (plain("Query"),)), service("s", (plain("Query", field("a")),))])

    def test_two_rules_give_the_number_of_the_first(self):
        for first, second in itertools.combinations(BROKEN, 2):
            for broken in BROKEN[first].values():
                for other in BROKEN[second].values():
                    self.refuse(GOOD + other + renamed(broken, other), first, (first, second))
                    self.refuse(renamed(broken, other) + GOOD + other, first, (first, second))

    def test_no_root_is_told_last(self):
        for rule, cases in BROKEN.items():
            for words, services in cases.items():
                # These two do not break both rules: the one brings a field of
                # Query, and the other needs the type Query.
                if words not in ("field of Query", "union Query"):
                    self.refuse(ROOTLESS + services, rule, words)

    def test_a_union_is_no_root(self):
        self.refuse(ROOTLESS + BROKEN[4]["union Query"], 7)


def renamed(services, others):
    """The services, with other names where they would meet those of others."""
    taken = [other.name for other in others]
    return [service(one.name + "2" if one.name in taken else one.name, one.types, one.unions) for one in services]


class AllowedTest(unittest.TestCase):
    """What comes close to breaking a rule, but does not."""

    def accept(self, *services):
        for order in itertools.permutations(GOOD + list(services)):
            compose(list(order))

    def test_names(self):
        self.accept(service("a"), service("Z" * 30), service("Int"), service("Query"))
        self.accept(service("s", (plain("T"), plain("t"), plain("T" * 30)), (("u", ("T",)), ("U" * 30, ("t",)))))
        self.accept(*with_field(field("f"), field("F"), field("Int"), field("Query"), field("Ball"), field("f" * 30)))
        self.accept(*with_field(field("f", "Int", ("f", "Int", None), ("F", "Int", None), ("Text", "Int", None))))
        self.accept(*with_field(field("f", "Int", ("p" * 30, "Int", None)), field("g", "Int", ("p" * 30, "Int", None))))

    def test_a_field_may_have_the_name_of_one_of_another_type(self):
        self.accept(service("s", (plain("A", field("f")), plain("B", field("f")))))
        self.accept(service("s", (plain("A", field("size")),)), service("t", (plain("B", field("size")),)))

    def test_texts(self):
        self.accept(*with_field(
            field("a", "[[[[[Int]]]]]"), field("b", "[[[[[Int!]!]!]!]!]!"), field("c", "Ball"), field("d", "[Any!]"),
            field("e", "Owner!"), field("f", "Truth"), field("g", "[Text]!"),
        ))

    def test_defaults(self):
        defaults = [
            ("Int", None), ("Int!", None), ("Int", 0), ("Int!", 2147483647), ("Int", -2147483648), ("Text", ""),
            ("Text!", " ~"), ("Truth", False), ("Truth!", True), ("Truth", None), ("Text", None),
        ]
        for text, default in defaults:
            self.accept(*with_field(field("f", "Int", ("p", text, default))))

    def test_keys(self):
        self.accept(service("s", (entity("A"), entity("B", text="Text!"), entity("C", key="k" * 30))))
        self.accept(service("s", (entity("A", field("id2", "Int!"), key="id"),)))

    def test_unions(self):
        self.accept(*with_members("Ball"))
        self.accept(*with_members("Ball", "Owner"))
        self.accept(*with_members("Owner", "Ball"))
        self.accept(
            service("s", (entity("A"),), (("First", ("A",)),)),
            service("t", (entity("A"),), (("Second", ("A",)),)),
        )

    def test_shared_types(self):
        self.accept(
            service("s", (entity("Shared", field("a")), plain("Query"))),
            service("t", (entity("Shared", field("b")), plain("Query", field("first")))),
            service("u", (entity("Shared"), plain("Query", field("second")))),
        )

    def test_types_without_fields(self):
        self.accept(service("s", (plain("Empty"),)), service("t", (plain("Bare"),)))


if __name__ == "__main__":
    unittest.main()

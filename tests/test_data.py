"""Points 9 to 11: root values, records, params, and values that do not fit."""

import copy
import unittest

from seamgraph.schema import Service
from seamgraph.store import Store

BAD = ("fails", "bad value")
KINDS = (
    ("number", "Int"),
    ("sure", "Int!"),
    ("text", "Text"),
    ("truth", "Truth"),
    ("numbers", "[Int!]"),
    ("grid", "[[Int]!]!"),
    ("user", "User"),
    ("users", "[User]!"),
    ("box", "Box"),
    ("thing", "Thing!"),
    ("things", "[Thing]"),
)
SERVICE = Service(
    "main",
    (
        ("Query", None, tuple((name, (), text) for name, text in KINDS)),
        ("User", "id", (("id", (), "Int!"), ("name", (), "Text"), ("friend", (), "User"))),
        ("Item", "code", (("code", (), "Text!"), ("size", (), "Int"))),
        ("Box", None, (("size", (), "Int"), ("box", (), "Box"), ("user", (), "User"))),
        ("Bag", None, (("size", (), "Int"),)),
    ),
    (("Thing", ("Item", "Box")),),
)
USER = (("User", (("id", "id", (), ()),)),)
BOX = (("Box", (("size", "size", (), ()),)),)
THING = (("Item", (("code", "code", (), ()),)), ("Box", (("size", "size", (), ()),)))
CHOICES = {"user": USER, "users": USER, "box": BOX, "thing": THING, "things": THING}


def told(name, value):
    """Returns what the service answers for a root field with this value in the data."""
    before = copy.deepcopy(value)
    store = Store(SERVICE, {name: value}, {})
    answer = store.answer((("roots", (("k", name, (), CHOICES.get(name, ())),)),))
    assert repr(value) == repr(before)
    ((type_name, key, found),) = answer
    assert (type_name, key, list(found)) == ("Query", None, ["k"])
    return found["k"]


class FormsTest(unittest.TestCase):
    def check(self, name, value, due):
        found = told(name, value)
        self.assertEqual(repr(found), repr(due), (name, value))

    def test_none_fits_everything(self):
        for name, _ in KINDS:
            self.check(name, None, None)
        self.check("numbers", [None, 1], [None, 1])
        self.check("grid", [None, [None]], [None, [None]])
        self.check("users", [None], [None])
        self.check("things", [None], [None])

    def test_failures_stay_as_they_are(self):
        for name, _ in KINDS:
            self.check(name, ("fails", "late"), ("fails", "late"))
        self.check("numbers", [1, ("fails", "late"), 2], [1, ("fails", "late"), 2])
        self.check("grid", [("fails", "a"), [("fails", "b")]], [("fails", "a"), [("fails", "b")]])
        self.check("users", [("fails", "")], [("fails", "")])

    def test_scalars(self):
        for value in (0, -2147483648, 2147483647):
            self.check("number", value, value)
            self.check("sure", value, value)
        for value in ("", " ~", "a b"):
            self.check("text", value, value)
        self.check("truth", True, True)
        self.check("truth", False, False)

    def test_scalars_that_do_not_fit(self):
        for value in (True, False, 2147483648, -2147483649, "1", "", [1], [], ("ref", "User", 1)):
            self.check("number", value, BAD)
            self.check("sure", value, BAD)
        for value in (1, True, "a\nb", "50%", "\t", "\x7f", "\u00e9", ["a"], ("object", "Box", {})):
            self.check("text", value, BAD)
        for value in (0, 1, "true", [True]):
            self.check("truth", value, BAD)

    def test_lists(self):
        self.check("numbers", [], [])
        self.check("numbers", [1, True, "x", [1]], [1, BAD, BAD, BAD])
        self.check("grid", [[1, [2]], 3, []], [[1, BAD], BAD, []])
        for value in (1, "12", True, ("ref", "User", 1), ("object", "Box", {})):
            self.check("numbers", value, BAD)
            self.check("users", value, BAD)

    def test_no_lists(self):
        for name in ("number", "text", "truth", "user", "box", "thing"):
            self.check(name, [], BAD)
            self.check(name, [None], BAD)

    def test_refs(self):
        self.check("user", ("ref", "User", 7), ("User", 7, {"id": 7}))
        self.check("users", [("ref", "User", 1), ("ref", "User", 1)], [("User", 1, {"id": 1})] * 2)
        self.check("thing", ("ref", "Item", "a"), ("Item", "a", {"code": "a"}))

    def test_refs_that_do_not_fit(self):
        for key in ("7", True, None, 2147483648, [7], ("ref", "User", 7)):
            self.check("user", ("ref", "User", key), BAD)
        for key in (7, True, None, "a\n", "%"):
            self.check("thing", ("ref", "Item", key), BAD)
        for name in ("Item", "Box", "Query", "Thing", "Nobody", "Int"):
            self.check("user", ("ref", name, 7), BAD)
        # These are possible types, or not, but have no key.
        self.check("box", ("ref", "Box", 7), BAD)
        self.check("thing", ("ref", "Box", None), BAD)
        self.check("things", [("ref", "Bag", "a"), ("ref", "User", 1)], [BAD, BAD])

    def test_objects(self):
        self.check("box", ("object", "Box", {"size": 3, "other": 4}), ("Box", None, {"size": 3}))
        self.check("box", ("object", "Box", {}), ("Box", None, {"size": None}))
        self.check("thing", ("object", "Box", {"size": True}), ("Box", None, {"size": BAD}))

    def test_objects_that_do_not_fit(self):
        self.check("user", ("object", "User", {"id": 1}), BAD)
        self.check("thing", ("object", "Item", {"code": "a"}), BAD)
        self.check("box", ("object", "Bag", {}), BAD)
        self.check("things", [("object", "Bag", {}), ("object", "Nothing", {})], [BAD, BAD])

    def test_neither_refs_nor_objects(self):
        for value in (1, "User", True, ""):
            self.check("user", value, BAD)
            self.check("box", value, BAD)
            self.check("thing", value, BAD)

        for value in ((), ("ref",), ("ref", "User"), ("object", "Box"), ("ref", "User", 1, 2), ("box", "Box", {})):
            self.check("number", value, BAD)
            self.check("user", value, BAD)
            self.check("box", value, BAD)

    def test_lists_are_copied(self):
        data = [[1], [2]]
        found = told("grid", data)
        self.assertEqual(found, data)
        found[0].append(3)
        self.assertEqual(data, [[1], [2]])


class RecordsTest(unittest.TestCase):
    FIELDS = (("k", "id", (), ()), ("n", "name", (), ()), ("f", "friend", (), USER))

    def ask(self, records, *keys):
        return Store(SERVICE, {}, records).answer((("keys", "User", keys, self.FIELDS),))[0]

    def test_missing_roots_are_none(self):
        answer = Store(SERVICE, {}, {}).answer((("roots", (("k", "number", (), ()), ("u", "user", (), USER))),))
        self.assertEqual(answer, (("Query", None, {"k": None, "u": None}),))

    def test_records(self):
        records = {("User", 1): {"name": "Ann", "friend": ("ref", "User", 2)}, ("User", 2): {"name": 3}}
        self.assertEqual(
            self.ask(records, 2, 1),
            (
                ("User", 2, {"k": 2, "n": BAD, "f": None}),
                ("User", 1, {"k": 1, "n": "Ann", "f": ("User", 2, {"id": 2})}),
            ),
        )

    def test_missing_fields_are_none(self):
        self.assertEqual(self.ask({("User", 1): {}}, 1), (("User", 1, {"k": 1, "n": None, "f": None}),))

    def test_the_key_is_not_read_from_the_record(self):
        self.assertEqual(self.ask({("User", 1): {"id": 5}}, 1)[0][2]["k"], 1)

    def test_entities_without_a_record(self):
        unknown = ("fails", "unknown")
        self.assertEqual(
            self.ask({("Item", 1): {}, ("User", 2): {}}, 1),
            (("User", 1, {"k": 1, "n": unknown, "f": unknown}),),
        )


class ParamsTest(unittest.TestCase):
    """Point 10: the values of fields with params."""

    PARAMS = (("n", "Int", None), ("b", "Truth", None))
    SERVICE = Service(
        "main",
        (
            ("Query", None, (("pick", PARAMS, "Text"), ("box", (), "Box"), ("one", PARAMS[:1], "[Int!]"))),
            ("User", "id", (("id", (), "Int!"), ("pick", PARAMS, "Text"), ("some", (("t", "Text", None),), "User"))),
            ("Box", None, (("pick", PARAMS, "Text"),)),
        ),
        (),
    )

    def root(self, value, *arguments):
        store = Store(self.SERVICE, {"pick": value}, {})
        return store.answer((("roots", (("k", "pick", arguments, ()),)),))[0][2]["k"]

    def record(self, value, *arguments):
        store = Store(self.SERVICE, {}, {("User", 1): {"pick": value}})
        return store.answer((("keys", "User", (1,), (("k", "pick", arguments, ()),)),))[0][0][2]["k"]

    def box(self, value, *arguments):
        store = Store(self.SERVICE, {"box": ("object", "Box", {"pick": value})}, {})
        fields = (("k", "pick", arguments, ()),)
        return store.answer((("roots", (("b", "box", (), (("Box", fields),)),)),))[0][2]["b"][2]["k"]

    def test_pairs(self):
        pairs = (((1, True), "a"), ((None, None), "b"), ((0, False), "c"), ((1, None), ("fails", "d")), ((2, None), 5))
        for ask in (self.root, self.record, self.box):
            self.assertEqual(ask(pairs, 1, True), "a")
            self.assertEqual(ask(pairs, None, None), "b")
            self.assertEqual(ask(pairs, 0, False), "c")
            self.assertEqual(ask(pairs, 1, None), ("fails", "d"))
            self.assertEqual(ask(pairs, 2, None), BAD)

    def test_no_pair(self):
        for ask in (self.root, self.record, self.box):
            self.assertIsNone(ask(None, 1, True))
            self.assertIsNone(ask((), 1, True))
            self.assertIsNone(ask((((1, False), "a"), ((1,), "b"), ((1, True, None), "c"), ((), "d")), 1, True))

    def test_equal_values_of_another_kind(self):
        for ask in (self.root, self.record, self.box):
            self.assertEqual(ask((((True, True), "a"), ((1, True), "b")), 1, True), "b")
            self.assertEqual(ask((((1, 1), "a"), ((1, True), "b")), 1, True), "b")
            self.assertEqual(ask((((0, 0), "a"), ((False, False), "c"), ((0, False), "b")), 0, False), "b")
            self.assertIsNone(ask((((True, 1), "a"),), 1, True))
            self.assertIsNone(ask((((0, 0), "a"),), 0, None))

    def test_the_first_of_equal_pairs(self):
        for ask in (self.root, self.record, self.box):
            self.assertEqual(ask((((1, True), "a"), ((1, True), "b")), 1, True), "a")
            self.assertIsNone(ask((((1, True), None), ((1, True), "b")), 1, True))

    def test_lists_and_refs_in_pairs(self):
        store = Store(self.SERVICE, {"one": (((3,), [1, None]), ((4,), 1))}, {("User", 1): {
            "some": ((("",), ("ref", "User", 2)), (("x",), ("ref", "User", "2"))),
        }})
        fields = tuple((f"k{n}", "one", (n,), ()) for n in (3, 4, 5))
        self.assertEqual(store.answer((("roots", fields),))[0][2], {"k3": [1, None], "k4": BAD, "k5": None})
        fields = tuple((f"k{n}", "some", (text,), (("User", ()),)) for n, text in enumerate(("", "x", "y", None)))
        self.assertEqual(
            store.answer((("keys", "User", (1,), fields),))[0][0][2],
            {"k0": ("User", 2, {}), "k1": BAD, "k2": None, "k3": None},
        )


if __name__ == "__main__":
    unittest.main()

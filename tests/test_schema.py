import copy
import unittest

from seamgraph.schema import Field, Schema, Service, compose

USERS = Service(
    "users",
    (
        ("Query", None, (
            ("me", (), "User"),
            ("user", (("id", "Int!", None), ("active", "Truth", False)), "User"),
        )),
        ("User", "id", (
            ("id", (), "Int!"),
            ("name", (("short", "Truth!", True), ("tail", "Text", "")), "Text!"),
            ("address", (), "Address"),
            ("friends", (("first", "Int", 0),), "[User!]!"),
        )),
        ("Address", None, (
            ("street", (), "Text"),
            ("rooms", (), "[[Int]]"),
        )),
        ("Nothing", None, ()),
    ),
    (("Place", ("Address", "User")),),
)
POSTS = Service(
    "posts",
    (
        ("Post", "code", (
            ("text", (), "Text"),
            ("code", (), "Text!"),
            ("author", (), "User!"),
        )),
        ("User", "id", (
            ("posts", (("first", "Int", -2147483648),), "[Post!]"),
            ("id", (), "Int!"),
        )),
        ("Query", None, (
            ("find", (("word", "Text!", None),), "[Found]"),
        )),
    ),
    (("Found", ("User", "Post")), ("Written", ("Post",))),
)
IDLE = Service("Idle_9", (), ())


def text_must(name):
    return ("must", ("name", name))


class ServiceTest(unittest.TestCase):
    def test_attributes(self):
        types = (("Query", None, (("a", (), "Int"),)),)
        unions = (("U", ("A",)),)
        service = Service("s", types, unions)
        self.assertEqual(service.name, "s")
        self.assertEqual(service.types, types)
        self.assertEqual(service.unions, unions)

    def test_arguments_by_keyword(self):
        service = Service(name="s", types=(), unions=())
        self.assertEqual((service.name, service.types, service.unions), ("s", (), ()))


class WholeSchemaTest(unittest.TestCase):
    def setUp(self):
        self.services = [USERS, POSTS, IDLE]
        self.schema = compose(self.services)

    def read(self, schema):
        return {
            name: {word: (field.name, field.params, field.kind, field.owner) for word, field in fields.items()}
            for name, fields in schema.types.items()
        }

    def test_kinds_of_values(self):
        self.assertIsInstance(self.schema, Schema)
        for name in ("types", "key_names", "unions"):
            self.assertIsInstance(getattr(self.schema, name), dict)
        for fields in self.schema.types.values():
            self.assertIsInstance(fields, dict)
            for field in fields.values():
                self.assertIsInstance(field, Field)
                self.assertIsInstance(field.params, tuple)

    def test_all_types_and_fields(self):
        truth = ("name", "Truth")
        users = ("must", ("list", text_must("User")))
        self.assertEqual(self.read(self.schema), {
            "Query": {
                "me": ("me", (), ("name", "User"), "users"),
                "user": (
                    "user",
                    (("id", text_must("Int"), None), ("active", truth, False)),
                    ("name", "User"),
                    "users",
                ),
                "find": ("find", (("word", text_must("Text"), None),), ("list", ("name", "Found")), "posts"),
            },
            "User": {
                "id": ("id", (), text_must("Int"), None),
                "name": (
                    "name",
                    (("short", text_must("Truth"), True), ("tail", ("name", "Text"), "")),
                    text_must("Text"),
                    "users",
                ),
                "address": ("address", (), ("name", "Address"), "users"),
                "friends": ("friends", (("first", ("name", "Int"), 0),), users, "users"),
                "posts": (
                    "posts",
                    (("first", ("name", "Int"), -2147483648),),
                    ("list", text_must("Post")),
                    "posts",
                ),
            },
            "Address": {
                "street": ("street", (), ("name", "Text"), "users"),
                "rooms": ("rooms", (), ("list", ("list", ("name", "Int"))), "users"),
            },
            "Nothing": {},
            "Post": {
                "code": ("code", (), text_must("Text"), None),
                "text": ("text", (), ("name", "Text"), "posts"),
                "author": ("author", (), text_must("User"), "posts"),
            },
        })

    def test_defaults_keep_their_kind(self):
        user = self.schema.field("Query", "user").params
        self.assertIs(user[0][2], None)
        self.assertIs(user[1][2], False)
        first = self.schema.field("User", "friends").params[0][2]
        self.assertEqual((first, type(first)), (0, int))
        name = self.schema.field("User", "name").params
        self.assertIs(name[0][2], True)
        self.assertEqual(name[1][2], "")

    def test_keys(self):
        self.assertEqual(self.schema.key_names, {
            "Query": None, "User": "id", "Address": None, "Nothing": None, "Post": "code",
        })

    def test_unions(self):
        self.assertEqual(self.schema.unions, {
            "Place": ("Address", "User"), "Found": ("User", "Post"), "Written": ("Post",),
        })

    def test_the_order_of_the_services_changes_nothing_else(self):
        other = compose([IDLE, POSTS, USERS])
        self.assertEqual(self.read(other), self.read(self.schema))
        self.assertEqual(other.key_names, self.schema.key_names)
        self.assertEqual(other.unions, self.schema.unions)

    def test_services_stay_as_they_were(self):
        services = [copy.deepcopy(service) for service in self.services]
        lists = Service("lists", [("Query", None, (("a", (), "Int"),))], [])
        services.append(lists)
        before = [copy.deepcopy(vars(service)) for service in services]
        held = list(services)
        schema = compose(services)
        self.assertEqual([vars(service) for service in services], before)
        self.assertEqual([id(service) for service in services], [id(service) for service in held])
        schema.types["Query"].clear()
        schema.types.clear()
        schema.key_names.clear()
        schema.unions.clear()
        self.assertEqual([vars(service) for service in services], before)
        self.assertEqual(self.read(compose(services)).keys(), self.read(self.schema).keys())

    def test_each_schema_is_its_own(self):
        other = compose(self.services)
        other.types["User"].clear()
        other.key_names.clear()
        other.unions.clear()
        self.assertEqual(len(self.schema.types["User"]), 5)
        self.assertEqual(len(self.schema.key_names), 5)
        self.assertEqual(len(self.schema.unions), 3)

    def test_one_service(self):
        schema = compose([Service("one", (("Query", None, (("n", (), "Int"),)),), ())])
        self.assertEqual(self.read(schema), {"Query": {"n": ("n", (), ("name", "Int"), "one")}})
        self.assertEqual(schema.key_names, {"Query": None})
        self.assertEqual(schema.unions, {})

    def test_a_service_that_knows_only_the_key(self):
        keys = Service("keys", (("Post", "code", (("code", (), "Text!"),)),), ())
        for services in ([USERS, POSTS, keys], [keys, POSTS, USERS]):
            schema = compose(services)
            self.assertEqual(self.read(schema), self.read(self.schema))
            self.assertIs(schema.field("Post", "code").owner, None)

    def test_possible_types(self):
        for name in ("Query", "User", "Address", "Nothing", "Post"):
            self.assertEqual(self.schema.possible(name), (name,))
        self.assertEqual(self.schema.possible("Place"), ("Address", "User"))
        self.assertEqual(self.schema.possible("Found"), ("User", "Post"))
        self.assertEqual(self.schema.possible("Written"), ("Post",))
        self.assertIsInstance(self.schema.possible("Found"), tuple)

    def test_field(self):
        field = self.schema.field("User", "posts")
        self.assertIs(field, self.schema.types["User"]["posts"])
        self.assertEqual(field.name, "posts")
        self.assertEqual(field.owner, "posts")
        self.assertIs(self.schema.field("User", "id").owner, None)

    def test_fields_that_do_not_exist(self):
        pairs = [
            ("User", "text"), ("User", "me"), ("Query", "id"), ("Nothing", "a"), ("User", "_type"), ("User", ""),
            ("Found", "id"), ("Found", "_type"), ("Int", "id"), ("None", "id"), ("user", "id"), ("", ""),
        ]
        for type_name, name in pairs:
            self.assertIs(self.schema.field(type_name, name), None, (type_name, name))


if __name__ == "__main__":
    unittest.main()

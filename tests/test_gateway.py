"""Points 23 to 25: the exact requests of runs, in their rounds."""

import unittest

from seamgraph.checking import broken_rules
from seamgraph.gateway import Gateway, bound
from seamgraph.parser import parse_document
from seamgraph.schema import Service, compose
from seamgraph.store import Store
from seamgraph.whole import execute

from world import SCHEMA, stores


def row(name, *choices, key=None, args=()):
    return (key or name, name, args, choices)


def roots(*fields):
    return ("roots", fields)


def keys(type_name, found, *fields):
    return ("keys", type_name, found, fields)


ID = row("id")
AGE = row("age")
KARMA = row("karma", args=(1,))
NAME = row("name", args=(False,))
CODE = row("code")
TITLE = row("title")
SCORE = row("score")


class RunTest(unittest.TestCase):
    maxDiff = None

    def check(self, text, log, rounds, requests, given=None, down=(), schema=SCHEMA, data=None):
        """Runs a document twice, and compares the log, the bound and the response."""
        document = parse_document("query " + text)
        given = given or {}
        data = data or stores()
        self.assertEqual(broken_rules(schema, document), ())
        gateway = Gateway(schema, data, down)
        self.assertEqual(gateway.log, [])
        due = execute(schema, data, down, document, given)
        for _ in range(2):
            self.assertEqual(repr(gateway.run(document, given)), repr(due))
            self.assertEqual(gateway.log, log)
            self.assertEqual(repr(gateway.log), repr(log))
        self.assertEqual(bound(schema, document, given), (rounds, requests))
        return due

    def test_nothing_to_ask(self):
        self.assertEqual(self.check("{ _type a: _type }", [], 0, 0), ({"_type": "Query", "a": "Query"}, []))
        self.check("{ me @if(false) { id } }", [], 0, 0)

    def test_one_service(self):
        self.check(
            "{ me { id _type name friend { age } } n: count grid }",
            [
                (1, "users", (roots(
                    row("me", ("User", (ID, NAME, row("friend", ("User", (AGE,)))))),
                    row("count", key="n", args=(3, True)),
                    row("grid"),
                ),)),
            ],
            1,
            1,
        )

    def test_two_services_in_one_round(self):
        self.check(
            "{ me { id } latest { title } count }",
            [
                (1, "posts", (roots(row("latest", ("Post", (TITLE,)))),)),
                (1, "users", (roots(row("me", ("User", (ID,))), row("count", args=(3, True))),)),
            ],
            1,
            2,
        )

    def test_two_rounds(self):
        self.check(
            "{ me { name karma } }",
            [
                (1, "users", (roots(row("me", ("User", (NAME,)))),)),
                (2, "Votes", (keys("User", (1,), KARMA),)),
            ],
            2,
            2,
        )

    def test_three_services_in_three_rounds(self):
        due = self.check(
            "{ me { id name karma posts { code title score author { age } } } }",
            [
                (1, "users", (roots(row("me", ("User", (ID, NAME)))),)),
                (2, "Votes", (keys("User", (1,), ID, KARMA),)),
                (2, "posts", (keys(
                    "User",
                    (1,),
                    ID,
                    row("posts", ("Post", (CODE, TITLE, row("author", ("User", ()))))),
                ),)),
                (3, "Votes", (keys("Post", ("p1", "p2"), CODE, SCORE),)),
                (3, "users", (keys("User", (1,), AGE),)),
            ],
            3,
            5,
        )
        self.assertEqual(due[1], [])

    def test_keys_are_asked_if_they_are_selected(self):
        self.check(
            "{ me { a: id karma b: id _type name id } }",
            [
                (1, "users", (roots(row("me", ("User", (row("id", key="a"), row("id", key="b"), NAME, ID)))),)),
                (2, "Votes", (keys("User", (1,), row("id", key="a"), KARMA, row("id", key="b"), ID),)),
            ],
            2,
            2,
        )
        self.check(
            "{ me { id } }",
            [(1, "users", (roots(row("me", ("User", (ID,)))),))],
            1,
            1,
        )

    def test_entities_with_the_same_fields_share_a_part(self):
        self.check(
            "{ users { karma } }",
            [
                (1, "users", (roots(row("users", ("User", ()))),)),
                (2, "Votes", (keys("User", (2, 1), KARMA),)),
            ],
            2,
            2,
        )

    def test_parts_stand_at_the_place_of_the_first_entity(self):
        self.check(
            "{ me { karma } users { k: karma } user(id: 2, near: true) { karma } }",
            [
                (1, "users", (roots(
                    row("me", ("User", ())),
                    row("users", ("User", ())),
                    row("user", ("User", ()), args=(2, True)),
                ),)),
                (2, "Votes", (
                    keys("User", (1, 2), KARMA),
                    keys("User", (2, 1), row("karma", key="k", args=(1,))),
                )),
            ],
            2,
            2,
        )

    def test_fields_differ_by_key_order_arguments_and_choices(self):
        due = self.check(
            "{ a: me { karma k: karma } b: me { k: karma karma } c: me { karma(scale: 2) k: karma }"
            " d: me { karma k: karma } e: me { rival { id } } f: me { rival { karma } } g: me { rival { id } } }",
            [
                (1, "users", (roots(*[row("me", ("User", ()), key=key) for key in "abcdefg"]),)),
                (2, "Votes", (
                    keys("User", (1,), KARMA, row("karma", key="k", args=(1,))),
                    keys("User", (1,), row("karma", key="k", args=(1,)), KARMA),
                    keys("User", (1,), row("karma", args=(2,)), row("karma", key="k", args=(1,))),
                    keys("User", (1,), row("rival", ("User", (ID,)))),
                    keys("User", (1,), row("rival", ("User", (KARMA,)))),
                )),
            ],
            2,
            2,
        )
        self.assertEqual(due[0]["c"], {"karma": 20, "k": 10})

    def test_parts_of_several_types_in_the_order_of_opening(self):
        self.check(
            "{ found { ... on User { karma } ... on Post { score } ... on Note { by { karma } post { score } } } }",
            [
                (1, "posts", (roots(row(
                    "found",
                    ("Post", ()),
                    ("Note", (row("by", ("User", ())), row("post", ("Post", ())))),
                    ("User", ()),
                )),)),
                (2, "Votes", (
                    keys("Post", ("p1", "p2"), SCORE),
                    keys("User", (1, 2), KARMA),
                )),
            ],
            2,
            2,
        )

    def test_entities_are_opened_behind_those_inside(self):
        self.check(
            "{ me { karma friend { karma } } }",
            [
                (1, "users", (roots(row("me", ("User", (row("friend", ("User", ())),)))),)),
                (2, "Votes", (keys("User", (2, 1), KARMA),)),
            ],
            2,
            2,
        )
        self.check(
            "{ users { friend { k: karma } karma } }",
            [
                (1, "users", (roots(row("users", ("User", (row("friend", ("User", ())),)))),)),
                (2, "Votes", (
                    keys("User", (1, 2), row("karma", key="k", args=(1,))),
                    keys("User", (2, 1), KARMA),
                )),
            ],
            2,
            2,
        )
        self.check(
            "{ latest { score author { karma posts { author { karma } score } } } }",
            [
                (1, "posts", (roots(row("latest", ("Post", (
                    row("author", ("User", (row("posts", ("Post", (row("author", ("User", ())),))),))),
                )))),)),
                (2, "Votes", (
                    keys("User", (1,), KARMA),
                    keys("Post", ("p1", "p2"), SCORE),
                )),
            ],
            2,
            2,
        )

    def test_answers_in_the_order_of_the_requests(self):
        self.check(
            "{ users { karma } top { ... on Post { score author { karma } } } }",
            [
                (1, "posts", (roots(row(
                    "top",
                    ("Post", (row("author", ("User", ())),)),
                    ("Note", ()),
                    ("User", ()),
                )),)),
                (1, "users", (roots(row("users", ("User", ()))),)),
                (2, "Votes", (
                    keys("User", (1, 2), KARMA),
                    keys("Post", ("p1",), SCORE),
                )),
            ],
            2,
            3,
        )

    def test_open_objects_in_the_order_of_opening(self):
        # The answer for users 1 and 2 is one part, but each object has its own selection.
        self.check(
            "{ a: user(id: 2, near: true) { rival { age } } b: me { rival { name } } c: me { rival { age } } }",
            [
                (1, "users", (roots(
                    row("user", ("User", ()), key="a", args=(2, True)),
                    row("me", ("User", ()), key="b"),
                    row("me", ("User", ()), key="c"),
                ),)),
                (2, "Votes", (keys("User", (2, 1), row("rival", ("User", ()))),)),
                (3, "users", (keys("User", (1, 2), AGE), keys("User", (2,), NAME))),
            ],
            3,
            3,
        )

    def test_an_entity_that_is_met_again(self):
        self.check(
            "{ me { age rival { rival { age } } } }",
            [
                (1, "users", (roots(row("me", ("User", (AGE,)))),)),
                (2, "Votes", (keys("User", (1,), row("rival", ("User", (row("rival", ("User", ())),)))),)),
                (3, "users", (keys("User", (1,), AGE),)),
            ],
            3,
            3,
        )
        self.check(
            "{ me { karma rival { age friend { karma } } } }",
            [
                (1, "users", (roots(row("me", ("User", ()))),)),
                (2, "Votes", (keys("User", (1,), KARMA, row("rival", ("User", ()))),)),
                (3, "users", (keys("User", (2,), AGE, row("friend", ("User", ()))),)),
                (4, "Votes", (keys("User", (1,), KARMA),)),
            ],
            4,
            4,
        )

    def test_objects_without_a_key(self):
        self.check(
            "{ users { homes { town owner { karma } _type } } }",
            [
                (1, "users", (roots(row("users", ("User", (
                    row("homes", ("Home", (row("town", args=(None,)), row("owner", ("User", ()))))),
                )))),)),
                (2, "Votes", (keys("User", (1, 2), KARMA),)),
            ],
            2,
            2,
        )

    def test_only_what_applies_is_asked(self):
        text = (
            "($x: Truth! $n: Int) { me @if($x) { id } user(id: 1, near: null) { ...F karma(scale: $n) name @unless($x) } }"
            " fragment F on User { age @if($x) ... on User @unless($x) { posts { code } } }"
        )
        self.check(
            text,
            [
                (1, "users", (roots(
                    row("me", ("User", (ID,))),
                    row("user", ("User", (AGE,)), args=(1, None)),
                ),)),
                (2, "Votes", (keys("User", (1,), row("karma", args=(2,))),)),
            ],
            2,
            2,
            given={"x": True, "n": 2},
        )
        self.check(
            text,
            [
                (1, "users", (roots(row("user", ("User", (NAME,)), args=(1, None))),)),
                (2, "Votes", (keys("User", (1,), KARMA),)),
                (2, "posts", (keys("User", (1,), row("posts", ("Post", (CODE,)))),)),
            ],
            2,
            3,
            given={"x": False},
        )

    def test_groups_of_several_parts_are_asked_once(self):
        self.check(
            "{ me { friend { id } ...F } me { karma } ...G } fragment F on User { karma friend { age karma } }"
            " fragment G on Query { me { ...F } }",
            [
                (1, "users", (roots(row("me", ("User", (row("friend", ("User", (ID, AGE))),)))),)),
                (2, "Votes", (keys("User", (2,), ID, KARMA), keys("User", (1,), KARMA))),
            ],
            2,
            2,
        )

    def test_less_than_the_bound(self):
        empty = stores(roots={"users": {"users": [("fails", "late"), None]}, "posts": {"top": 5}})
        due = self.check(
            "{ me { karma } users { karma } }",
            [(1, "users", (roots(row("me", ("User", ())), row("users", ("User", ()))),))],
            2,
            2,
            data=empty,
        )
        self.assertEqual(due, (None, [(("users", 0), "late"), (("users", 1), "null")]))
        self.check(
            "{ top { ... on Post { title } ... on User { karma } } }",
            [(1, "posts", (roots(row("top", ("Post", (TITLE,)), ("Note", ()), ("User", ()))),))],
            2,
            2,
        )

    def test_entities_that_a_service_does_not_know_are_asked_of_others(self):
        due = self.check(
            "{ me { age karma } }",
            [
                (1, "users", (roots(row("me", ("User", (AGE,)))),)),
                (2, "Votes", (keys("User", (9,), KARMA),)),
            ],
            2,
            2,
            data=stores(roots={"users": {"me": ("ref", "User", 9)}}, records={"Votes": {("User", 9): {}}}),
        )
        self.assertEqual(due, ({"me": None}, [(("me", "age"), "unknown")]))

    def test_services_that_are_down(self):
        text = "{ me { name karma posts { score } } latest { title } }"
        first = [
            (1, "posts", (roots(row("latest", ("Post", (TITLE,)))),)),
            (1, "users", (roots(row("me", ("User", (NAME,)))),)),
        ]
        second = [
            (2, "Votes", (keys("User", (1,), KARMA),)),
            (2, "posts", (keys("User", (1,), row("posts", ("Post", ()))),)),
        ]
        third = [(3, "Votes", (keys("Post", ("p1", "p2"), SCORE),))]
        self.check(text, first + second + third, 3, 5)
        self.check(text, first + second + third, 3, 5, down=("Votes",))
        self.check(text, first + second, 3, 5, down=("posts",))
        self.check(text, first, 3, 5, down=("users",))
        due = self.check(text, first, 3, 5, down=("users", "posts", "Votes"))
        self.assertEqual(due, ({"me": None, "latest": None}, [(("me",), "down users"), (("latest",), "down posts")]))

    def test_entities_found_beside_a_service_that_is_down(self):
        due = self.check(
            "{ me { name posts { title } rival { name } } }",
            [
                (1, "users", (roots(row("me", ("User", (NAME,)))),)),
                (2, "Votes", (keys("User", (1,), row("rival", ("User", ()))),)),
                (2, "posts", (keys("User", (1,), row("posts", ("Post", (TITLE,)))),)),
                (3, "users", (keys("User", (2,), NAME),)),
            ],
            3,
            4,
            down=("posts",),
        )
        self.assertEqual(due[1], [(("me", "posts"), "down posts")])

    def test_the_log_is_that_of_the_last_run(self):
        gateway = Gateway(SCHEMA, stores(), ("Votes",))
        gateway.run(parse_document("query { me { karma } }"), {})
        first = gateway.log
        self.assertEqual(len(first), 2)
        gateway.run(parse_document("query { count }"), {})
        self.assertEqual(gateway.log, [(1, "users", (roots(row("count", args=(3, True))),))])
        self.assertEqual(len(first), 2)
        gateway.run(parse_document("query { _type }"), {})
        self.assertEqual(gateway.log, [])

    def test_nothing_is_kept_between_runs(self):
        document = parse_document("query { count }")
        data = stores()
        gateway = Gateway(SCHEMA, data, ())
        self.assertEqual(gateway.run(document, {}), ({"count": 33}, []))
        changed = Gateway(SCHEMA, stores(roots={"users": {"count": (((3, True), 34),)}}), ())
        self.assertEqual(changed.run(document, {}), ({"count": 34}, []))
        response = gateway.run(document, {})
        response[0]["count"] = 0
        response[1].append("x")
        self.assertEqual(gateway.run(document, {}), ({"count": 33}, []))

    def test_the_order_of_the_stores_does_not_matter(self):
        document = parse_document("query { me { karma posts { score } } latest { title } }")
        one = Gateway(SCHEMA, stores(), ())
        other = Gateway(SCHEMA, list(reversed(stores())), ())
        self.assertEqual(one.run(document, {}), other.run(document, {}))
        self.assertEqual(one.log, other.log)


class SameValuesTest(unittest.TestCase):
    """Arguments that are equal to Python, but belong to fields of different types."""

    def test_arguments_keep_their_kind(self):
        main = Service(
            "main",
            (
                ("Query", None, (("things", (), "[Thing]"),)),
                ("A", "id", (("id", (), "Int!"),)),
                ("B", "id", (("id", (), "Int!"),)),
            ),
            (("Thing", ("A", "B")),),
        )
        more = Service(
            "more",
            (
                ("A", "id", (("id", (), "Int!"), ("f", (("p", "Int", None),), "Text"))),
                ("B", "id", (("id", (), "Int!"), ("f", (("p", "Truth", None),), "Text"))),
            ),
            (),
        )
        schema = compose([main, more])
        data = [
            Store(main, {"things": [("ref", "A", 1), ("ref", "B", 1)]}, {}),
            Store(more, {}, {("A", 1): {"f": (((1,), "one"),)}, ("B", 1): {"f": (((True,), "yes"),)}}),
        ]
        gateway = Gateway(schema, data, ())
        document = parse_document("query { things { ... on A { f(p: 1) } ... on B { f(p: true) } } }")
        self.assertEqual(broken_rules(schema, document), ())
        self.assertEqual(gateway.run(document, {}), ({"things": [{"f": "one"}, {"f": "yes"}]}, []))
        self.assertEqual(
            repr(gateway.log[1]),
            repr((2, "more", (keys("A", (1,), row("f", args=(1,))), keys("B", (1,), row("f", args=(True,)))))),
        )


if __name__ == "__main__":
    unittest.main()

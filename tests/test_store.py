"""Point 22: the answers of a service (test_data.py has the values in them)."""

import copy
import unittest

from seamgraph.store import Store

from world import POSTS as POSTS_SERVICE
from world import RECORDS, ROOTS, stores

USERS, POSTS, VOTES = stores()
ID = ("id", "id", (), ())
CODE = ("code", "code", (), ())
TITLE = ("t", "title", (), ())
UNKNOWN = ("fails", "unknown")


class AnswerTest(unittest.TestCase):
    def check(self, store, request, due):
        self.assertEqual(repr(store.answer(request)), repr(due))

    def test_the_service(self):
        store = Store(POSTS_SERVICE, {}, {})
        self.assertIs(store.service, POSTS_SERVICE)

    def test_no_parts(self):
        self.check(USERS, (), ())
        self.check(VOTES, (), ())

    def test_roots(self):
        self.check(USERS, (("roots", ()),), (("Query", None, {}),))
        self.check(
            USERS,
            (("roots", (("b", "grid", (), ()), ("a", "count", (3, True), ()), ("c", "count", (3, False), ()))),),
            (("Query", None, {"b": [[1, 2], [], [3]], "a": 33, "c": None}),),
        )

    def test_keys_in_their_order(self):
        self.check(
            POSTS,
            (("keys", "Post", ("p2", "p1"), (TITLE, CODE)),),
            ((("Post", "p2", {"t": "Second", "code": "p2"}), ("Post", "p1", {"t": "First", "code": "p1"})),),
        )
        self.check(POSTS, (("keys", "Post", (), (TITLE,)),), ((),))
        self.check(POSTS, (("keys", "Post", ("p1",), ()),), ((("Post", "p1", {}),),))

    def test_several_parts(self):
        self.check(
            POSTS,
            (
                ("keys", "User", (2,), (("m", "mark", (), (("Post", ()), ("Note", (("x", "text", (), ()),)), ("User", ()))),)),
                ("roots", (("l", "latest", (), (("Post", (TITLE,)),)),)),
                ("keys", "Post", ("p1",), (TITLE,)),
                ("roots", ()),
            ),
            (
                (("User", 2, {"m": ("Note", None, {"x": "mine"})}),),
                ("Query", None, {"l": ("Post", "p2", {"t": "Second"})}),
                (("Post", "p1", {"t": "First"}),),
                ("Query", None, {}),
            ),
        )

    def test_nodes_contain_the_choice_of_their_type(self):
        choices = (("Post", (CODE, TITLE)), ("Note", (("x", "text", (), ()),)), ("User", ()))
        self.check(
            POSTS,
            (("roots", (("f", "found", (), choices), ("g", "top", (), choices))),),
            (
                (
                    "Query",
                    None,
                    {
                        "f": [
                            ("Post", "p1", {"code": "p1", "t": "First"}),
                            ("Note", None, {"x": "hi"}),
                            ("User", 2, {}),
                        ],
                        "g": ("Post", "p1", {"code": "p1", "t": "First"}),
                    },
                ),
            ),
        )

    def test_nodes_inside_nodes(self):
        homes = ("h", "homes", (), (("Home", (("w", "town", (None,), ()), ("o", "owner", (), (("User", (ID,)),)))),))
        friend = ("f", "friend", (), (("User", (homes, ID)),))
        self.check(
            USERS,
            (("keys", "User", (1, 2), (friend,)),),
            (
                (
                    (
                        "User",
                        1,
                        {
                            "f": (
                                "User",
                                2,
                                {
                                    "h": [
                                        ("Home", None, {"w": "Bonn", "o": ("User", 1, {"id": 1})}),
                                        ("Home", None, {"w": "Cork", "o": ("User", 2, {"id": 2})}),
                                    ],
                                    "id": 2,
                                },
                            ),
                        },
                    ),
                    ("User", 2, {"f": ("User", 1, {"h": [], "id": 1})}),
                ),
            ),
        )

    def test_entities_without_a_record(self):
        store = Store(POSTS_SERVICE, {"latest": ("ref", "Post", "x")}, {})
        self.check(
            store,
            (("roots", (("l", "latest", (), (("Post", (CODE, TITLE)),)),)), ("keys", "Post", ("y",), (TITLE, CODE))),
            (
                ("Query", None, {"l": ("Post", "x", {"code": "x", "t": UNKNOWN})}),
                (("Post", "y", {"t": UNKNOWN, "code": "y"}),),
            ),
        )

    def test_values_that_do_not_fit_and_failures(self):
        store = Store(
            POSTS_SERVICE,
            {"found": [("ref", "User", "1"), ("fails", "late"), None], "top": 3, "latest": ("ref", "Post", 1)},
            {},
        )
        choices = (("Post", ()), ("Note", ()), ("User", ()))
        fields = (("f", "found", (), choices), ("t", "top", (), choices), ("l", "latest", (), (("Post", ()),)))
        bad = ("fails", "bad value")
        self.check(store, (("roots", fields),), (("Query", None, {"f": [bad, ("fails", "late"), None], "t": bad, "l": bad}),))

    def test_the_order_of_the_values(self):
        fields = (TITLE, CODE, ("a", "title", (), ()))
        (nodes,) = POSTS.answer((("keys", "Post", ("p1",), fields),))
        self.assertEqual(list(nodes[0][2]), ["t", "code", "a"])

    def test_data_and_requests_are_not_changed_or_shared(self):
        before = repr((ROOTS, RECORDS))
        request = (("roots", (("g", "grid", (), ()), ("m", "me", (), (("User", (ID,)),)))),)
        copied = copy.deepcopy(request)
        ((_, _, found),) = USERS.answer(request)
        found["g"][0].append(5)
        found["m"][2]["id"] = 7
        self.assertEqual(repr((ROOTS, RECORDS)), before)
        self.assertEqual(request, copied)
        self.assertEqual(USERS.answer(request)[0][2], {"g": [[1, 2], [], [3]], "m": ("User", 1, {"id": 1})})

    def test_deep_answers(self):
        fields = (ID,)
        for _ in range(300):
            fields = (("f", "friend", (), (("User", fields),)),)
        ((node,),) = USERS.answer((("keys", "User", (1,), fields),))
        for _ in range(300):
            node = node[2]["f"]
        self.assertEqual(node, ("User", 1, {"id": 1}))


if __name__ == "__main__":
    unittest.main()

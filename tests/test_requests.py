"""Point 21: what is a request for a service, and what is none."""

import copy
import unittest

from seamgraph.errors import InvalidRequest, SeamError

from world import stores

USERS, POSTS, VOTES = stores()
ID = ("id", "id", (), ())
CODE = ("code", "code", (), ())
KARMA = ("karma", "karma", (1,), ())
FOUND = (("Post", (CODE,)), ("Note", ()), ("User", (ID,)))


class RequestTest(unittest.TestCase):
    def accept(self, store, *parts):
        before = copy.deepcopy(parts)
        answer = store.answer(parts)
        self.assertIsInstance(answer, tuple)
        self.assertEqual(len(answer), len(parts))
        self.assertEqual(repr(parts), repr(before))

    def refuse(self, store, *parts):
        with self.assertRaises(InvalidRequest, msg=parts):
            store.answer(parts)

    def field(self, row):
        """Refuses a field in a part for roots or keys, and in a choice."""
        self.refuse(USERS, ("keys", "User", (1,), (row,)))
        self.refuse(USERS, ("keys", "User", (1,), (ID, row)))
        self.refuse(USERS, ("roots", (("me", "me", (), (("User", (row,)),)),)))
        inner = ("f", "friend", (), (("User", (row,)),))
        self.refuse(USERS, ("roots", (("me", "me", (), (("User", (inner,)),)),)))

    def test_the_error(self):
        self.assertTrue(issubclass(InvalidRequest, SeamError))

    def test_requests(self):
        self.accept(USERS)
        self.accept(USERS, ("roots", ()))
        self.accept(USERS, ("keys", "User", (), ()))
        self.accept(USERS, ("keys", "User", (2, 1, -5), (ID, ("k", "id", (), ()))), ("keys", "User", (2,), (ID,)))
        self.accept(USERS, ("roots", (("a", "count", (None, False), ()),)), ("keys", "User", (1,), (ID,)))
        self.accept(POSTS, ("keys", "Post", ("", "p1"), (CODE,)), ("roots", (("found", "found", (), FOUND),)))
        self.accept(VOTES, ("keys", "User", (1,), (KARMA, ("k", "karma", (None,), ()))))

    def test_what_is_no_tuple(self):
        for request in ([], None, 1, "roots", {}, [("roots", ())], True):
            with self.assertRaises(InvalidRequest):
                USERS.answer(request)

    def test_what_is_no_part(self):
        for part in ((), None, "roots", 1, [], ["roots", ()], ("roots",), ("roots", (), ()), ("keys", "User"), (1, ())):
            self.refuse(USERS, part)
            self.refuse(USERS, ("roots", ()), part)
        for part in (("key", "User", (1,), ()), ("keys", "User", (1,)), ("keys", "User", (1,), (), ()), ("Roots", ())):
            self.refuse(USERS, part)
        for part in (("roots", "User", (1,), (ID,)), ("keys", ()), (("roots",), ()), ([], "User", (1,), ())):
            self.refuse(USERS, part)

    def test_a_service_without_query(self):
        self.refuse(VOTES, ("roots", ()))
        self.refuse(VOTES, ("roots", (KARMA,)))
        self.refuse(VOTES, ("keys", "User", (1,), (KARMA,)), ("roots", ()))

    def test_types_that_are_not_in_the_service(self):
        for name in ("Post", "Nobody", "Found", "Int", "", None, 1, ["User"], ("User",), {}):
            self.refuse(USERS, ("keys", name, (1,), ()))
            self.refuse(USERS, ("keys", name, (), ()))

    def test_types_without_a_key(self):
        self.refuse(USERS, ("keys", "Home", (1,), ()))
        self.refuse(USERS, ("keys", "Query", (1,), ()))
        self.refuse(USERS, ("keys", "Home", (), ()))
        self.refuse(POSTS, ("keys", "Note", (None,), ()))

    def test_keys(self):
        for keys in ((1, 1), (1, 2, 1), ("1",), (True,), (None,), (1, "1"), (2147483648,), (1, True), ([1],), ((1,),)):
            self.refuse(USERS, ("keys", "User", keys, (ID,)))
        for keys in ([1], 1, None, "1", {1: True}):
            self.refuse(USERS, ("keys", "User", keys, (ID,)))
        for keys in ((1,), ("a\n",), ("%",), ("a", "b", "a"), (True,), (None,)):
            self.refuse(POSTS, ("keys", "Post", keys, (CODE,)))

    def test_fields_that_are_no_tuple(self):
        for fields in (None, [], [ID], "id", 1, ID, {"id": ID}):
            self.refuse(USERS, ("keys", "User", (1,), fields))
            self.refuse(USERS, ("roots", fields))
            self.refuse(USERS, ("roots", (("me", "me", (), (("User", fields),)),)))

    def test_what_is_no_field(self):
        for row in (None, 1, "id", (), ("id",), ("id", "id", ()), ("id", "id", (), (), ()), ["id", "id", (), ()]):
            self.field(row)

    def test_fields_that_are_not_in_the_service(self):
        for name in ("karma", "posts", "me", "town", "nothing", "", None, 1, ["id"], ("id",), "_type", "ID"):
            self.field(("k", name, (), ()))
        self.refuse(USERS, ("roots", (("latest", "latest", (), (("Post", ()),)),)))
        self.refuse(USERS, ("roots", (ID,)))
        self.refuse(VOTES, ("keys", "User", (1,), (("name", "name", (False,), ()),)))
        self.refuse(POSTS, ("keys", "Post", ("p1",), (("score", "score", (), ()),)))

    def test_keys_of_responses(self):
        for key in ("_type", "", "1a", "a b", "a" * 31, "_", "\u00e9", None, 1, True, ["id"], ("id",)):
            self.field((key, "id", (), ()))
        self.refuse(USERS, ("keys", "User", (1,), (ID, ID)))
        self.refuse(USERS, ("keys", "User", (1,), (ID, ("id", "age", (), ()))))
        self.refuse(USERS, ("roots", (("me", "me", (), (("User", (ID, ID)),)),)))
        self.accept(USERS, ("keys", "User", (1,), (ID, ("a" * 30, "id", (), ()), ("Id", "id", (), ()))))

    def test_arguments(self):
        for arguments in ((), (1, 1), ("1",), (True,), (2147483648,), [1], 1, None, ([1],), "1", {}):
            self.refuse(VOTES, ("keys", "User", (1,), (("k", "karma", arguments, ()),)))
        for arguments in ((None,), (1,), [], None, (False,)):
            self.field(("id", "id", arguments, ()))
        # A param with `!` takes no None, also if it has a default.
        for arguments in ((3, None), (None, None), (3,), (True, 3), (3, 1), (3, True, 1)):
            self.refuse(USERS, ("roots", (("k", "count", arguments, ()),)))
        self.refuse(USERS, ("roots", (("k", "user", (None, True), (("User", ()),)),)))
        self.accept(USERS, ("roots", (("k", "user", (3, None), (("User", ()),)),)))

    def test_choices(self):
        for choices in (
            (),
            FOUND[:2],
            FOUND[1:],
            (FOUND[1], FOUND[0], FOUND[2]),
            FOUND + FOUND[:1],
            (FOUND[0], FOUND[0], FOUND[1], FOUND[2]),
            (("Found", ()),),
            FOUND + (("Query", ()),),
            list(FOUND),
            (list(FOUND[0]),) + FOUND[1:],
            (("Post",),) + FOUND[1:],
            (("Post", (), ()),) + FOUND[1:],
            ("Post", "Note", "User"),
            ((None, ()),) + FOUND[1:],
            ((["Post"], ()),) + FOUND[1:],
            None,
            1,
        ):
            self.refuse(POSTS, ("roots", (("k", "found", (), choices),)))
        for choices in ((), (("Post", ()),), (("User", ()), ("User", ())), [("User", ())]):
            self.field(("f", "friend", (), choices))

    def test_scalars_have_no_choices(self):
        for choices in (None, [], (("Int", ()),), (("User", ()),), 0):
            self.field(("id", "id", (), choices))
            self.refuse(USERS, ("roots", (("k", "grid", (), choices),)))

    def test_fields_of_choices(self):
        # Each type has its own fields, and those of its own service.
        for choices in (
            (("Post", (ID,)),) + FOUND[1:],
            (("Post", (("score", "score", (), ()),)),) + FOUND[1:],
            (FOUND[0], ("Note", (CODE,)), FOUND[2]),
            FOUND[:2] + (("User", (("name", "name", (False,), ()),)),),
        ):
            self.refuse(POSTS, ("roots", (("k", "found", (), choices),)))

    def test_a_fault_after_others_that_hold(self):
        good = ("keys", "User", (1,), (ID, ("h", "homes", (), (("Home", ()),))))
        self.accept(USERS, good, good)
        self.refuse(USERS, good, ("keys", "User", (1,), (("h", "homes", (), (("Home", (ID,)),)),)))
        self.refuse(USERS, good, ("keys", "Home", (1,), ()))

    def test_deep_requests(self):
        fields = (ID,)
        for _ in range(300):
            fields = (("f", "friend", (), (("User", fields),)),)
        self.assertEqual(len(USERS.answer((("keys", "User", (1,), fields),))), 1)
        fields = (ID, ID)
        for _ in range(300):
            fields = (("f", "friend", (), (("User", fields),)),)
        with self.assertRaises(InvalidRequest):
            USERS.answer((("keys", "User", (1,), fields),))


if __name__ == "__main__":
    unittest.main()

"""Three services, and their data, that several tests use."""

from seamgraph.schema import Service, compose
from seamgraph.store import Store

USERS = Service(
    "users",
    (
        (
            "Query",
            None,
            (
                ("me", (), "User"),
                ("users", (), "[User!]!"),
                ("user", (("id", "Int!", None), ("near", "Truth", None)), "User"),
                ("count", (("least", "Int", 3), ("exact", "Truth!", True)), "Int"),
                ("grid", (), "[[Int!]!]"),
            ),
        ),
        (
            "User",
            "id",
            (
                ("id", (), "Int!"),
                ("name", (("short", "Truth", False),), "Text"),
                ("friend", (), "User"),
                ("home", (), "Home"),
                ("homes", (), "[Home!]!"),
                ("age", (), "Int!"),
            ),
        ),
        ("Home", None, (("town", (("upper", "Truth", None),), "Text!"), ("owner", (), "User"), ("next", (), "Home"))),
    ),
    (),
)
POSTS = Service(
    "posts",
    (
        ("Query", None, (("latest", (), "Post"), ("found", (), "[Found]"), ("top", (), "Found!"))),
        ("User", "id", (("id", (), "Int!"), ("posts", (), "[Post!]"), ("mark", (), "Found"))),
        ("Post", "code", (("code", (), "Text!"), ("title", (), "Text"), ("author", (), "User"))),
        ("Note", None, (("text", (), "Text"), ("post", (), "Post"), ("by", (), "User"))),
    ),
    (("Found", ("Post", "Note", "User")),),
)
VOTES = Service(
    "Votes",
    (
        ("Post", "code", (("code", (), "Text!"), ("score", (), "Int!"), ("voters", (), "[User]"))),
        ("User", "id", (("id", (), "Int!"), ("karma", (("scale", "Int", 1),), "Int"), ("rival", (), "User"))),
    ),
    (),
)
SERVICES = [USERS, POSTS, VOTES]
SCHEMA = compose(SERVICES)

SHORT = (((False,), "Ann Smith"), ((True,), "Ann"))
ROOTS = {
    "users": {
        "me": ("ref", "User", 1),
        "users": [("ref", "User", 2), ("ref", "User", 1), ("ref", "User", 2)],
        "user": (((1, None), ("ref", "User", 1)), ((2, True), ("ref", "User", 2))),
        "count": (((3, True), 33), ((1, True), 11)),
        "grid": [[1, 2], [], [3]],
    },
    "posts": {
        "latest": ("ref", "Post", "p2"),
        "found": [
            ("ref", "Post", "p1"),
            ("object", "Note", {"text": "hi", "post": ("ref", "Post", "p2"), "by": ("ref", "User", 1)}),
            ("ref", "User", 2),
        ],
        "top": ("ref", "Post", "p1"),
    },
    "Votes": {},
}
RECORDS = {
    "users": {
        ("User", 1): {
            "name": SHORT,
            "friend": ("ref", "User", 2),
            "home": ("object", "Home", {"town": (((None,), "Rome"), ((True,), "ROME"))}),
            "homes": [],
            "age": 30,
        },
        ("User", 2): {
            "name": (((False,), "Bob Jones"),),
            "friend": ("ref", "User", 1),
            "homes": [
                ("object", "Home", {"town": (((None,), "Bonn"),), "owner": ("ref", "User", 1)}),
                ("object", "Home", {"town": (((None,), "Cork"),), "owner": ("ref", "User", 2)}),
            ],
            "age": 40,
        },
    },
    "posts": {
        ("User", 1): {"posts": [("ref", "Post", "p1"), ("ref", "Post", "p2")]},
        ("User", 2): {"posts": [], "mark": ("object", "Note", {"text": "mine"})},
        ("Post", "p1"): {"title": "First", "author": ("ref", "User", 1)},
        ("Post", "p2"): {"title": "Second", "author": ("ref", "User", 1)},
    },
    "Votes": {
        ("Post", "p1"): {"score": 5, "voters": [("ref", "User", 2), None, ("ref", "User", 1)]},
        ("Post", "p2"): {"score": 7, "voters": []},
        ("User", 1): {"karma": (((1,), 10), ((2,), 20)), "rival": ("ref", "User", 2)},
        ("User", 2): {"karma": (((1,), 3),), "rival": ("ref", "User", 1)},
    },
}


def stores(roots=None, records=None):
    """Returns the stores, where the data of some services may be others."""
    roots = {**ROOTS, **(roots or {})}
    records = {**RECORDS, **(records or {})}
    return [Store(service, roots[service.name], records[service.name]) for service in SERVICES]

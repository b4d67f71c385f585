"""Point 26: the bound of documents (test_gateway.py has more, beside their logs)."""

import unittest

from seamgraph.checking import broken_rules
from seamgraph.gateway import Gateway, bound
from seamgraph.parser import parse_document
from seamgraph.whole import execute

from world import SCHEMA, stores


class BoundTest(unittest.TestCase):
    def check(self, text, rounds, requests, given=None):
        document = parse_document("query " + text)
        self.assertEqual(broken_rules(SCHEMA, document), ())
        found = bound(SCHEMA, document, given or {})
        self.assertIsInstance(found, tuple)
        self.assertEqual(found, (rounds, requests))

    def test_groups_without_an_owner(self):
        self.check("{ _type }", 0, 0)
        self.check("{ me { id _type } }", 1, 1)
        self.check("{ me { rival { id _type } } }", 2, 2)

    def test_the_root(self):
        self.check("{ me { id } count users { id } }", 1, 1)
        self.check("{ me { id } latest { code } }", 1, 2)

    def test_groups_of_the_same_owner_stay_on_their_level(self):
        self.check("{ me { name friend { friend { name } } } }", 1, 1)
        self.check("{ me { karma rival { karma rival { karma } } } }", 2, 2)

    def test_groups_of_other_owners(self):
        self.check("{ me { name karma } }", 2, 2)
        self.check("{ me { name karma posts { code } } }", 2, 3)
        self.check("{ me { rival { name } } }", 3, 3)
        self.check("{ me { rival { posts { score } } } }", 4, 4)

    def test_the_same_pair_counts_once(self):
        self.check("{ me { karma } users { karma friend { karma } } }", 2, 2)
        self.check("{ me { karma } latest { score author { karma } } }", 2, 3)

    def test_the_same_owner_on_several_levels(self):
        self.check("{ me { name rival { name rival { friend { karma } } } } }", 4, 4)

    def test_objects_without_a_key(self):
        self.check("{ me { home { town next { town } } } }", 1, 1)
        self.check("{ me { home { owner { karma } next { next { owner { name } } } } } }", 2, 2)
        self.check("{ me { mark { ... on Note { text post { title } } } } }", 2, 2)

    def test_every_possible_type_counts(self):
        self.check("{ found { ... on User { karma } } }", 2, 2)
        self.check("{ found { ... on User { name } ... on Post { score voters { age } } } }", 3, 4)
        self.check("{ top { _type ... on Note { by { age } } ... on User { posts { code } } } }", 2, 2)

    def test_the_data_do_not_matter(self):
        empty = [store for store in stores(dict.fromkeys(("users", "posts"), {}), dict.fromkeys(("users", "posts"), {}))]
        document = parse_document("query { me { karma } }")
        self.assertEqual(bound(SCHEMA, document, {}), (2, 2))
        gateway = Gateway(SCHEMA, empty, ())
        self.assertEqual(gateway.run(document, {}), ({"me": None}, []))
        self.assertEqual(len(gateway.log), 1)

    def test_variables_and_conditions_matter(self):
        text = "($x: Truth! = true) { me { name karma @if($x) ... @unless($x) { rival { name } } } }"
        self.check(text, 2, 2)
        self.check(text, 3, 3, {"x": False})
        self.check("{ me @if(false) { karma } }", 0, 0)

    def test_fragments(self):
        self.check("{ me { ...F } latest { author { ...F } } } fragment F on User { name rival { id } }", 2, 4)


def chain(levels, many=1):
    """Returns a document whose fragments each spread the next one, twice at each step."""
    parts = []
    for at in range(levels):
        parts.append(f"fragment F{at} on User {{ " + f"...F{at + 1} " * many + f"friend {{ ...F{at + 1} ...F{at + 1} }} }}")
    parts.append(f"fragment F{levels} on User {{ id name karma }}")
    return parse_document("query { me { ...F0 ...F0 } } " + " ".join(parts))


class LongTest(unittest.TestCase):
    def test_fragments_that_spread_one_another(self):
        document = chain(9, 20)
        self.assertEqual(broken_rules(SCHEMA, document), ())
        self.assertEqual(bound(SCHEMA, document, {}), (2, 2))
        data = stores()
        gateway = Gateway(SCHEMA, data, ())
        self.assertEqual(gateway.run(document, {}), execute(SCHEMA, data, (), document, {}))
        self.assertEqual(len(gateway.log), 2)

    def test_fields_that_lead_to_the_same_fragments(self):
        parts = ["query { users { ...F0 } }"]
        for at in range(9):
            fields = " ".join([f"{key}: rival {{ {key}{key}: friend {{ ...F{at + 1} }} }}" for key in "abcdefgh"])
            parts.append(f"fragment F{at} on User {{ {fields} }}")
        parts.append("fragment F9 on User { id name karma }")
        document = parse_document(" ".join(parts))
        self.assertEqual(bound(SCHEMA, document, {}), (20, 20))
        empty = stores(roots={"users": {"users": []}})
        self.assertEqual(execute(SCHEMA, empty, (), document, {}), ({"users": []}, []))

    def test_selections_as_deep_as_they_may_be(self):
        # Ten selections in the operation and in each of ten fragments.
        parts = ["query " + "{ me " + "{ friend " * 8 + "{ ...F0 } " + "} " * 9]
        for at in range(10):
            inner = f"...F{at + 1}" if at < 9 else "name karma"
            turn = "{ friend { rival " * 4 + "{ friend { " + inner + " } } " + "} } " * 4
            parts.append(f"fragment F{at} on User {turn}")
        document = parse_document(" ".join(parts))
        self.assertEqual(broken_rules(SCHEMA, document), ())
        data = stores()
        gateway = Gateway(SCHEMA, data, ())
        found, errors = gateway.run(document, {})
        self.assertEqual(errors, [])
        self.assertEqual((found, errors), execute(SCHEMA, data, (), document, {}))
        found = found["me"]
        while "name" not in found:
            (found,) = found.values()
        self.assertEqual(sorted(found), ["karma", "name"])
        rounds, requests = bound(SCHEMA, document, {})
        self.assertEqual((gateway.log[-1][0], len(gateway.log)), (rounds, requests))


if __name__ == "__main__":
    unittest.main()

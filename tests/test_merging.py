import unittest

from test_checking import Checking


class MergingTest(Checking):
    """Point 15, rule 9: fields with the same key agree."""

    def test_fields_that_agree(self):
        self.assert_accepted("count count")
        self.assert_accepted("k: count k: count count")
        self.assert_accepted("me { id } me { name }")
        self.assert_accepted("user(id: 1) { id } user(id: 1) { name }")
        self.assert_accepted("_type _type k: _type")
        self.assert_accepted("count k: count(least: 1) l: count(least: 2)")

    def test_different_names(self):
        self.assert_broken((9,), "k: count k: _type")
        self.assert_broken((9,), "count: _type count")
        self.assert_broken((9,), "count count k: count k: count k: _type")
        self.assert_broken((9,), "me { id name: id name }")
        self.assert_broken((9,), "me { k: id k: name }")
        self.assert_broken((9,), "k: me { id } k: box { size }")

    def test_different_arguments(self):
        self.assert_broken((9,), "user(id: 1) { id } user(id: 2) { id }")
        self.assert_broken((9,), "count count(least: 3)")
        self.assert_broken((9,), "count(least: 1) count(exact: true)")
        self.assert_broken((9,), "count(least: null) count")
        self.assert_broken((9,), "count(least: $a) count(least: $b)", "$a: Int $b: Int")
        self.assert_broken((9,), "count(least: $a) count(least: 1)", "$a: Int = 1")
        self.assert_broken((6, 9), "count(least: 1) count(least: true)")
        self.assert_broken((5, 9), "count(least: 1) count(least: 1, least: 1)")

    def test_arguments_in_any_order(self):
        self.assert_accepted("count(least: 1, exact: true) count(exact: true, least: 1)")
        self.assert_accepted("count(least: $a, exact: $b) count(exact: $b, least: $a)", "$a: Int $b: Truth!")
        self.assert_broken((9,), "count(least: 1, exact: true) count(exact: false, least: 1)")

    def test_conditions_do_not_matter(self):
        self.assert_accepted("count @if(true) count @if(false)")
        self.assert_broken((9,), "k: count @if(true) k: _type @unless(true)")
        self.assert_broken((9,), "... @if(false) { k: count } k: _type")

    def test_through_parts(self):
        self.assert_broken((9,), "k: count ... { k: _type }")
        self.assert_broken((9,), "... { k: count } ... { k: _type }")
        self.assert_broken((9,), "... { ... on Query { k: count } } k: _type")
        self.assert_broken((9,), "k: count ...F", "", "fragment F on Query { k: _type }")
        self.assert_broken((9,), "...F ...G", "", "fragment F on Query { k: _type } fragment G on Query { k: count }")
        self.assert_broken(
            (9,), "k: count ...F", "", "fragment F on Query { ... { ...G } } fragment G on Query { k: _type }"
        )
        self.assert_accepted("count ...F ...F", "", "fragment F on Query { count }")

    def test_fields_of_different_types(self):
        self.assert_accepted("found { ... on User { k: id } ... on Item { k: code } }")
        self.assert_accepted("found { ... on User { k: name(short: true) } ... on Item { k: name } }")
        self.assert_accepted("found { ... on User { ... on Found { ... on User { k: id } ... on Item { k: code } } } }")
        self.assert_broken((9,), "found { ... on User { k: id } ... on User { k: name } }")
        self.assert_broken((9,), "found { k: _type ... on User { k: name } }")
        self.assert_broken((9,), "found { ... on Thing { k: _type } ... on Item { k: name } }")
        self.assert_accepted("found { ... on Thing { k: _type } ... on User { k: name } }")
        self.assert_broken((9,), "found { ... on Item { k: code } ...F }", "", "fragment F on Item { k: name }")
        self.assert_accepted("found { ... on User { k: id } ...F }", "", "fragment F on Item { k: name }")

    def test_selections_taken_together(self):
        self.assert_broken((9,), "me { k: id } me { k: name }")
        self.assert_broken((9,), "me { friend { k: id } } me { friend { k: name } }")
        self.assert_broken((9,), "k: me { id: name } k: me { id }")
        self.assert_broken((9,), "me { friend { k: id } ... { friend { ...F } } }", "", "fragment F on User { k: name }")
        self.assert_broken((9,), "me { friend { k: id } ...F }", "", "fragment F on User { friend { k: name } }")
        self.assert_broken((9,), "box { box { box { size } } } box { box { box { size: _type } } }")
        self.assert_accepted("me { k: id friend { k: name } }")
        self.assert_accepted("me { friend { k: id } f: friend { k: name } }")

    def test_selections_of_different_types(self):
        parts = "found { ... on User { k: friend { l: id } } ... on Item { k: twin { l: name } } }"
        self.assert_accepted(parts)
        self.assert_accepted(parts.replace("twin", "_type").replace(" { l: name }", ""))
        both = "me { top { ... on User { k: name } } } me { top { ... on Item { k: code } } }"
        self.assert_accepted(both)
        self.assert_broken((9,), both.replace("Item", "User").replace("code", "id"))
        self.assert_broken((9,), both.replace("... on Item { k: code }", "k: _type"))

    def test_inside_lists(self):
        self.assert_broken((9,), "users { k: id } users { k: name }")
        self.assert_broken((9,), "users { posts { k: id } } users { posts { k: text } }")

    def test_in_fragments(self):
        self.assert_broken((9,), "count", "", "fragment F on User { k: id k: name }")
        self.assert_broken((9,), "count", "", "fragment F on User { friend { k: id } friend { k: name } }")
        self.assert_broken((9,), "count", "", "fragment F on Found { ... on Item { k: code k: name } }")
        self.assert_accepted("count", "", "fragment F on User { k: id } fragment G on User { k: name }")

    def test_fields_that_do_not_exist(self):
        self.assert_broken((3,), "k: nothing k: count")
        self.assert_broken((3,), "k: count k: nothing { id }")
        self.assert_broken((3, 9), "k: count k: nothing k: _type")
        self.assert_broken((3,), "found { k: name ... on User { k: id } }")
        self.assert_broken((3,), "found { k: name k: code }")
        self.assert_broken((3,), "nothing { k: id k: name me { k: id k: name } }")

    def test_inside_scalars(self):
        self.assert_broken((4,), "count { k: id k: name }")
        self.assert_broken((4,), "count { k: id } count { k: name }")

    def test_fields_without_a_selection(self):
        self.assert_broken((4,), "me me { id }")
        self.assert_broken((4, 9), "me me { k: id } me { k: name }")

    def test_parts_that_cannot_apply(self):
        self.assert_broken((8,), "... on User { k: id k: name }")
        self.assert_broken((8,), "me { k: id ... on Item { k: code } }")
        self.assert_broken((8,), "found { ... on User { k: id ... on Item { k: code k: name } } }")

    def test_selections_of_fields_that_differ(self):
        self.assert_broken((9,), "k: me { id } k: box { id: size }")
        self.assert_broken((9,), "user(id: 1) { k: id } user(id: 2) { k: name }")

    def test_the_same_fragment_in_many_places(self):
        fields = " ".join(f"f{index}: friend {{ ...F{{}} }}" for index in range(8))
        fragments = [
            f"fragment F{index} on User {{ {fields.replace('{}', str(index + 1))} ...F{index + 1} }}"
            for index in range(9)
        ]
        last = " fragment F9 on User { id }"
        self.assert_accepted("me { ...F0 }", "", " ".join(fragments) + last)
        self.assert_broken((9,), "me { ...F0 }", "", " ".join(fragments) + last.replace("id", "id id: name"))

    def test_the_same_fragment_many_times(self):
        fragments = [f"fragment F{index} on User {{ " + f"...F{index + 1} " * 8 + "}" for index in range(9)]
        last = " fragment F9 on User { id k: name }"
        self.assert_accepted("me { ...F0 id }", "", " ".join(fragments) + last)
        self.assert_broken((9,), "me { ...F0 k: id }", "", " ".join(fragments) + last)


if __name__ == "__main__":
    unittest.main()

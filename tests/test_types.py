import copy
import itertools
import string
import unittest

from seamgraph.errors import InvalidType
from seamgraph.types import SCALARS, base_of, fits, format_type, has_list, is_name, parse_type

LETTERS = string.ascii_letters
NAME_SIGNS = LETTERS + string.digits + "_"


def all_types(name, lists):
    """Pairs of each text and value of a type with this name and up to so many lists."""
    bare = [(name, ("name", name))]
    found = []
    for depth in range(lists + 1):
        whole = bare + [(text + "!", ("must", kind)) for text, kind in bare]
        found.extend(whole)
        bare = [("[" + text + "]", ("list", kind)) for text, kind in whole]
    return found


class NameTest(unittest.TestCase):
    def test_names(self):
        for text in ("a", "Z", "z9", "User", "Int", "Query", "a_", "a__b", "x" + "_" * 29):
            self.assertIs(is_name(text), True, text)

    def test_first_character_is_a_letter(self):
        for code in range(0, 0x250):
            self.assertIs(is_name(chr(code)), chr(code) in LETTERS, code)

    def test_other_characters(self):
        for code in range(0, 0x250):
            for text in ("a" + chr(code), "a" + chr(code) + "b"):
                self.assertIs(is_name(text), chr(code) in NAME_SIGNS, code)

    def test_lengths(self):
        self.assertIs(is_name(""), False)
        for length in (1, 2, 29, 30):
            self.assertIs(is_name("a" * length), True, length)
        for length in (31, 32, 60):
            self.assertIs(is_name("a" * length), False, length)

    def test_no_names(self):
        for text in ("_", "_type", "1a", "a b", " a", "a ", "a-b", "$a", "a!", "[a]", "a\n"):
            self.assertIs(is_name(text), False, text)
        for text in ("\u00e9a", "a\u00e9", "a\u0663", "\u0663", "\uff41", "a\u00b2", "\u212a"):
            self.assertIs(is_name(text), False, text)


class FitsTest(unittest.TestCase):
    def test_scalars(self):
        self.assertEqual(SCALARS, ("Int", "Text", "Truth"))
        self.assertIsInstance(SCALARS, tuple)

    def fitting(self, value):
        answers = [(scalar, fits(scalar, value)) for scalar in SCALARS]
        for _, answer in answers:
            self.assertIsInstance(answer, bool)
        return [scalar for scalar, answer in answers if answer]

    def test_integers(self):
        for value in (0, 1, -1, 2, 2147483646, 2147483647, -2147483647, -2147483648):
            self.assertEqual(self.fitting(value), ["Int"], value)

    def test_integers_beyond(self):
        for value in (2147483648, -2147483649, 10**10, -(10**10), 2**64):
            self.assertEqual(self.fitting(value), [], value)

    def test_true_and_false_are_no_integers(self):
        self.assertEqual(self.fitting(True), ["Truth"])
        self.assertEqual(self.fitting(False), ["Truth"])

    def test_strings(self):
        for value in ("", " ", "~", "a b", "Int", "1", "True", '"\\{}', "x" * 1000):
            self.assertEqual(self.fitting(value), ["Text"], value)

    def test_each_character(self):
        for code in list(range(0, 0x250)) + [0x2028, 0xFF05, 0x1F600]:
            fitting = ["Text"] if 32 <= code <= 126 and code != ord("%") else []
            self.assertEqual(self.fitting(chr(code)), fitting, code)
            self.assertEqual(self.fitting("ab" + chr(code)), fitting, code)
            self.assertEqual(self.fitting(chr(code) + "ab"), fitting, code)
            self.assertEqual(self.fitting("a" + chr(code) + "b"), fitting, code)

    def test_values_of_any_kind(self):
        class Odd:
            def __eq__(self, other):
                raise RuntimeError("compared")

            __hash__ = None

        values = [
            None, 1.0, 0.0, float("nan"), float("inf"), 1j, b"", b"ab", bytearray(b"a"), [], [1], ["a"], (), (1,),
            ("a",), ("number", 1), {}, {"a": 1}, set(), frozenset([1]), object(), int, str, len, Odd(), Odd,
            ("ref", "User", 1), ("fails", "reason"), range(3), Ellipsis, NotImplemented,
        ]
        for value in values:
            self.assertEqual(self.fitting(value), [], type(value))

    def test_values_stay_as_they_are(self):
        value = [1, {"a": [2]}]
        kept = copy.deepcopy(value)
        self.fitting(value)
        self.assertEqual(value, kept)


class ParseTest(unittest.TestCase):
    def test_examples_of_the_document(self):
        self.assertEqual(parse_type("[Int!]"), ("list", ("must", ("name", "Int"))))
        self.assertEqual(format_type(("must", ("list", ("name", "User")))), "[User]!")

    def test_ordinary_types(self):
        self.assertEqual(parse_type("User"), ("name", "User"))
        self.assertEqual(parse_type("Text!"), ("must", ("name", "Text")))
        self.assertEqual(parse_type("[User]"), ("list", ("name", "User")))
        self.assertEqual(parse_type("[a_1!]!"), ("must", ("list", ("must", ("name", "a_1")))))
        self.assertEqual(parse_type("[[Truth]!]"), ("list", ("must", ("list", ("name", "Truth")))))

    def test_parsing_and_formatting_undo_each_other(self):
        for name in ("a", "Int", "User", "Query", "x_9", "a" * 30):
            types = all_types(name, 5)
            self.assertEqual(len(types), 126)
            for text, kind in types:
                self.assertEqual(parse_type(text), kind, text)
                self.assertEqual(format_type(kind), text)
                self.assertEqual(format_type(parse_type(text)), text)
                self.assertEqual(parse_type(format_type(kind)), kind)

    def test_base(self):
        for name in ("a", "Int", "User", "list", "must", "name"):
            for text, kind in all_types(name, 5):
                self.assertEqual(base_of(kind), name, text)

    def test_has_list(self):
        for name in ("a", "Int", "list"):
            for text, kind in all_types(name, 5):
                self.assertIs(has_list(kind), "[" in text, text)

    def refuse(self, text):
        with self.assertRaises(InvalidType, msg=repr(text)):
            parse_type(text)

    def test_lists_up_to_five_deep(self):
        kind = ("name", "Int")
        for _ in range(5):
            kind = ("list", kind)
        self.assertEqual(parse_type("[[[[[Int]]]]]"), kind)
        self.assertEqual(parse_type("[[[[[Int!]!]!]!]!]!").count("must"), 1)

    def test_lists_six_deep(self):
        for text in ("[[[[[[Int]]]]]]", "[[[[[[Int!]!]!]!]!]!]!", "[[[[[[Int]]]]]]!"):
            self.refuse(text)
        for depth in (7, 8, 50):
            self.refuse("[" * depth + "Int" + "]" * depth)

    def test_names_in_types(self):
        self.assertEqual(parse_type("[" + "a" * 30 + "!]"), ("list", ("must", ("name", "a" * 30))))
        for name in ("a" * 31, "_a", "_type", "1a", "a-b", "a%", "\u00e9"):
            for text in (name, name + "!", "[" + name + "]", "[" + name + "!]!"):
                self.refuse(text)

    def test_two_marks(self):
        for text in ("Int!!", "[Int!!]", "[Int]!!", "[[Int]!!]!", "!!", "Int!!!"):
            self.refuse(text)

    def test_marks_in_other_places(self):
        for text in ("!", "!Int", "![Int]", "[!Int]", "In!t", "[!]", "[]!"):
            self.refuse(text)

    def test_brackets_without_partner(self):
        for text in ("[", "]", "[Int", "Int]", "[Int]]", "[[Int]", "]Int[", "[Int!", "Int!]", "[Int!]]!"):
            self.refuse(text)
        for text in ("[]", "[[]]", "Int[]", "[Int][Int]", "[a]b", "a[b]"):
            self.refuse(text)

    def test_spaces_and_empty_texts(self):
        for text in ("", " ", "  ", "\n", " Int", "Int ", "In t", "Int\n", "\tInt"):
            self.refuse(text)
        for text in ("Int !", "[ Int]", "[Int ]", "[ ]", "[Int] !", " [Int]", "[Int]! "):
            self.refuse(text)

    def test_all_short_texts(self):
        written = {}
        for length in range(1, 7):
            written.update(dict(all_types("a" * length, 5)))
        for length in range(7):
            for signs in itertools.product("a[]! ", repeat=length):
                text = "".join(signs)
                if text in written:
                    self.assertEqual(parse_type(text), written[text], text)
                else:
                    self.refuse(text)


if __name__ == "__main__":
    unittest.main()

import unittest

from seamgraph.errors import InvalidDocument, SeamError
from seamgraph.words import split_words


def kinds_and_words(text):
    return [(kind, word) for _, kind, word in split_words(text)]


class WordsTest(unittest.TestCase):
    """Points 12 and 13: the words of a document, their places and their kinds."""

    def assert_refused(self, text, place):
        with self.assertRaises(InvalidDocument) as caught:
            split_words(text)
        self.assertEqual(caught.exception.place, place, text)
        self.assertIsInstance(caught.exception, SeamError)

    def test_a_document(self):
        self.assertEqual(
            split_words('query ($a: [Int!] = -5) {\n  b: c(d: "e f")\n  ...on G @if(true), _type }'),
            [
                (0, "name", "query"),
                (6, "sign", "("),
                (7, "variable", "a"),
                (9, "sign", ":"),
                (11, "sign", "["),
                (12, "name", "Int"),
                (15, "sign", "!"),
                (16, "sign", "]"),
                (18, "sign", "="),
                (20, "number", -5),
                (22, "sign", ")"),
                (24, "sign", "{"),
                (28, "name", "b"),
                (29, "sign", ":"),
                (31, "name", "c"),
                (32, "sign", "("),
                (33, "name", "d"),
                (34, "sign", ":"),
                (36, "text", "e f"),
                (41, "sign", ")"),
                (45, "sign", "..."),
                (48, "name", "on"),
                (51, "name", "G"),
                (53, "sign", "@"),
                (54, "name", "if"),
                (56, "sign", "("),
                (57, "name", "true"),
                (61, "sign", ")"),
                (64, "name", "_type"),
                (70, "sign", "}"),
            ],
        )

    def test_a_list_of_tuples(self):
        words = split_words("a")
        self.assertIs(type(words), list)
        self.assertIs(type(words[0]), tuple)

    def test_no_words(self):
        self.assertEqual(split_words(""), [])
        self.assertEqual(split_words(" \n, ,\n"), [])

    def test_words_need_not_fit_the_rules(self):
        self.assertEqual(
            split_words(")fragment:"), [(0, "sign", ")"), (1, "name", "fragment"), (9, "sign", ":")]
        )

    def test_signs(self):
        signs = ["{", "}", "(", ")", ":", "=", "!", "[", "]", "...", "@"]
        for sign in signs:
            self.assertEqual(split_words(" " + sign), [(1, "sign", sign)])
        self.assertEqual(kinds_and_words("".join(signs)), [("sign", sign) for sign in signs])

    def test_dots(self):
        self.assertEqual(split_words("......"), [(0, "sign", "..."), (3, "sign", "...")])
        self.assertEqual(split_words("...a"), [(0, "sign", "..."), (3, "name", "a")])
        self.assert_refused(".", 0)
        self.assert_refused("a ..", 2)
        self.assert_refused(". ..", 0)
        self.assert_refused("....", 3)
        self.assert_refused("..... a", 3)

    def test_names(self):
        for name in ("a", "Z", "a1", "a_", "aZ_09", "true", "null", "query", "a" * 30, "a_type", "a__type"):
            self.assertEqual(split_words(name), [(0, "name", name)])

    def test_names_that_are_too_long(self):
        self.assert_refused("a" * 31, 0)
        self.assert_refused("b " + "a" * 31 + " c", 2)
        self.assert_refused("a" * 30 + "_", 0)
        self.assert_refused("a" * 30 + "0", 0)
        self.assert_refused("1" + "a" * 31, 1)
        self.assertEqual(split_words("a" * 30 + "$b")[1], (30, "variable", "b"))

    def test_the_word_that_begins_with_an_underscore(self):
        self.assertEqual(split_words("_type"), [(0, "name", "_type")])
        self.assertEqual(split_words("1_type:"), [(0, "number", 1), (1, "name", "_type"), (6, "sign", ":")])
        for text in ("_", "__type", "_typ", "_types", "_type1", "_type_", "_Type", "_a", "_type" + "e" * 26):
            self.assert_refused(text, 0)
            self.assert_refused("b " + text, 2)

    def test_variables(self):
        self.assertEqual(split_words("$a $B_9"), [(0, "variable", "a"), (3, "variable", "B_9")])
        self.assertEqual(split_words("$a$b"), [(0, "variable", "a"), (2, "variable", "b")])
        self.assertEqual(split_words("$" + "a" * 30), [(0, "variable", "a" * 30)])
        for text in ("$", "$ a", "$1", "$_type", "$_a", "$$a", "$\na", "$,a", '$"a"', "$-", "$" + "a" * 31):
            self.assert_refused(text, 0)
            self.assert_refused("$b " + text, 3)

    def test_numbers(self):
        self.assertEqual(
            kinds_and_words("0 7 -7 007 -0 1234567890 -9999999999 0000000000"),
            [("number", n) for n in (0, 7, -7, 7, 0, 1234567890, -9999999999, 0)],
        )
        self.assertIs(type(split_words("1")[0][2]), int)

    def test_numbers_with_more_digits(self):
        self.assert_refused("12345678901", 0)
        self.assert_refused("00000000000", 0)
        self.assert_refused("-12345678901", 0)
        self.assert_refused("1 -12345678901", 2)
        self.assert_refused("1234567890123456789012345", 0)

    def test_a_minus_sign_without_a_digit(self):
        self.assert_refused("-", 0)
        self.assert_refused("1 - 1", 2)
        self.assert_refused("--1", 0)
        self.assert_refused("-a", 0)
        self.assert_refused("1-", 1)
        self.assert_refused("-\n1", 0)

    def test_words_that_touch(self):
        self.assertEqual(split_words("12a"), [(0, "number", 12), (2, "name", "a")])
        self.assertEqual(split_words("1234567890a"), [(0, "number", 1234567890), (10, "name", "a")])
        self.assertEqual(split_words("1-2"), [(0, "number", 1), (1, "number", -2)])
        self.assertEqual(split_words("a-2"), [(0, "name", "a"), (1, "number", -2)])
        self.assertEqual(split_words('a"b"c'), [(0, "name", "a"), (1, "text", "b"), (4, "name", "c")])
        self.assertEqual(split_words('1""'), [(0, "number", 1), (1, "text", "")])
        self.assertEqual(split_words('"a""b"'), [(0, "text", "a"), (3, "text", "b")])
        self.assertEqual(split_words("a$b"), [(0, "name", "a"), (1, "variable", "b")])
        self.assert_refused("12_a", 2)

    def test_texts(self):
        for text in ("", "a", " ", "a b", ", {}", "$a ...", "-", "_", "'", "\\", "~!#&*+;<>?^`|/"):
            self.assertEqual(split_words('"' + text + '"'), [(0, "text", text)])
        self.assertEqual(split_words('"' + "a" * 40 + '"'), [(0, "text", "a" * 40)])

    def test_texts_without_an_end(self):
        self.assert_refused('"', 0)
        self.assert_refused('"abc', 0)
        self.assert_refused('a "b" "', 6)
        self.assert_refused('"a\nb"', 0)
        self.assert_refused('a "b\n"', 2)
        self.assert_refused('"a\n', 0)
        self.assert_refused('"a" b"', 5)

    def test_blanks_separate_words(self):
        for blank in (" ", "\n", ",", ", \n"):
            self.assertEqual(kinds_and_words("a" + blank + "b"), [("name", "a"), ("name", "b")])
            self.assertEqual(kinds_and_words(blank + "1" + blank + "2" + blank), [("number", 1), ("number", 2)])

    def test_characters_that_begin_no_word(self):
        for sign in "#&'*+;<>?\\^`|~/":
            self.assert_refused(sign, 0)
            self.assert_refused("a" + sign + "b", 1)

    def test_characters_that_no_document_contains(self):
        for sign in ("%", "\t", "\r", "\x00", "\x7f", "\xe9", "\u00b2", "\u0663", "\u4e00"):
            self.assert_refused(sign, 0)
            self.assert_refused("a" + sign, 1)
            self.assert_refused("1" + sign, 1)
            self.assert_refused("$" + sign, 0)
            self.assert_refused('a "b' + sign + '"', 2)

    def test_the_first_fault_counts(self):
        self.assert_refused("a # - " + "b" * 31, 2)
        self.assert_refused('- "', 0)


if __name__ == "__main__":
    unittest.main()

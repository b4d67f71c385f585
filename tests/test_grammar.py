"""The grammar of documents, followed without any cleverness.

A symbol is expanded in every possible way at once; a word that no expansion
takes is the first one that does not fit. This says the same as the parser, but
by other means, so the tests compare the two.
"""

import random
import unittest

from seamgraph.errors import InvalidDocument
from seamgraph.parser import parse_document
from seamgraph.words import split_words

NAME = ("any name", None)
FIELD = ("field name", None)
FRAGMENT = ("fragment name", None)


def word(text):
    return ("name" if text.isalpha() else "sign", text)


def maybe(*symbols):
    return ("choice", ((), symbols))


def many(*symbols):
    return ("many", symbols)


def choice(*ways):
    return ("choice", ways)


CONSTANT = choice(
    (("number", None),), (("text", None),), (word("true"),), (word("false"),), (word("null"),)
)
VALUE = choice((("variable", None),), (CONSTANT,))
CONDITIONS = many(word("@"), choice((word("if"),), (word("unless"),)), word("("), VALUE, word(")"))
ARGUMENT = (NAME, word(":"), VALUE)
ARGUMENTS = (word("("), *ARGUMENT, many(*ARGUMENT), word(")"))
DECLARATION = (("variable", None), word(":"), ("type", 0), maybe(word("="), CONSTANT))
DECLARATIONS = (word("("), *DECLARATION, many(*DECLARATION), word(")"))
DOCUMENT = (word("query"), maybe(*DECLARATIONS), ("selection", 1), ("fragments", 10))


def expand(symbol):
    """Returns the sequences that a symbol stands for, or None if it is a word."""
    form, told = symbol
    if form == "choice":
        return told
    if form == "many":
        return ((), told + (symbol,))
    if form == "type":
        bare = choice((NAME,), (word("["), ("type", told + 1), word("]")) if told < 5 else (NAME,))
        return ((bare, maybe(word("!"))),)
    if form == "selection":
        part = ("part", told)
        return ((word("{"), part, many(part), word("}")),) if told <= 10 else ()
    if form == "part":
        return expand_part(("selection", told + 1))
    if form == "fragments":
        fragment = (word("fragment"), FRAGMENT, word("on"), NAME, ("selection", 1), ("fragments", told - 1))
        return ((), fragment) if told > 0 else ((),)
    return None


def expand_part(selection):
    behind = (maybe(*ARGUMENTS), CONDITIONS, maybe(selection))
    spread = choice(
        (word("on"), NAME, CONDITIONS, selection), (FRAGMENT, CONDITIONS), (CONDITIONS, selection)
    )
    return ((FIELD,) + behind, (NAME, word(":"), FIELD) + behind, (word("..."), spread))


def takes(symbol, kind, found):
    form, told = symbol
    if form == "any name":
        return kind == "name" and found != "_type"
    if form == "field name":
        return kind == "name"
    if form == "fragment name":
        return kind == "name" and found not in ("_type", "on")
    return form == kind and told in (None, found)


def first_words(stacks):
    """Expands stacks until each of them is empty or begins with a word."""
    done = set()
    waiting = list(stacks)
    while waiting:
        stack = waiting.pop()
        ways = expand(stack[0]) if stack else None
        if ways is None:
            done.add(stack)
        else:
            waiting.extend(tuple(way) + stack[1:] for way in ways)
    return done


def place_of_fault(text):
    """Returns the place of the first word that does not fit, or None."""
    stacks = first_words([DOCUMENT])
    for place, kind, found in split_words(text):
        stacks = first_words({stack[1:] for stack in stacks if stack and takes(stack[0], kind, found)})
        if not stacks:
            return place
    return None if () in stacks else len(text)


def some_words(chance, size):
    """Returns the words of a document, chosen at random."""
    words = []
    stack = list(DOCUMENT)
    while stack:
        symbol = stack.pop(0)
        ways = expand(symbol)
        if ways is None:
            words.append(some_word(chance, symbol))
            continue
        if not ways:
            # One selection more than is allowed.
            return words + ["{"]
        # A long document comes to its end: the shortest way ends soonest.
        long = len(words) > size or (symbol[0] in ("choice", "many") and chance.random() < 0.3)
        way = min(ways, key=len) if long else chance.choice(ways)
        stack = list(way) + stack
    return words


def some_word(chance, symbol):
    form, told = symbol
    if told is not None:
        return told
    if form == "number":
        return chance.choice(["0", "7", "-12"])
    if form == "text":
        return chance.choice(['""', '"a b"'])
    if form == "variable":
        return "$" + chance.choice("ab")
    names = ["a", "b", "query", "fragment", "if", "true", "null"]
    if form != "fragment name":
        names.append("on")
    if form == "field name":
        names.append("_type")
    return chance.choice(names)


WORDS = "{ } ( ) : = ! [ ] ... @ a _type on query fragment if unless true null 1 \"x\" $v".split()


def changed(chance, words):
    """Returns other words: some are missing, new, or replaced, or the end is."""
    words = list(words)
    for _ in range(chance.choice([1, 1, 2])):
        at = chance.randrange(len(words) + 1)
        cut = chance.choice([0, 0, 1, 1, len(words)])
        new = [chance.choice(WORDS)] if chance.random() < 0.5 else []
        words[at : at + cut] = new
    return words


def outcome(text):
    """Returns the place at which the parser refuses a text, or None."""
    try:
        parse_document(text)
    except InvalidDocument as error:
        return error.place
    return None


class GrammarTest(unittest.TestCase):
    """Points 12 and 13: which texts are documents, and where the others go wrong."""

    def test_documents_by_chance(self):
        chance = random.Random(5)
        found = []
        for size in [5, 20, 40, 80] * 40:
            words = some_words(chance, size)
            for _ in range(5):
                text = " ".join(words) + chance.choice(["", "", " ", "\n"])
                place = place_of_fault(text)
                self.assertEqual(outcome(text), place, text)
                found.append(place is None)
                words = changed(chance, words)
        # Both kinds must be there, or the comparison would say little.
        self.assertGreater(found.count(True), 100)
        self.assertGreater(found.count(False), 100)


if __name__ == "__main__":
    unittest.main()

"""Documents, and how they are read from a text."""

from seamgraph.errors import InvalidDocument
from seamgraph.types import DEEPEST_LIST
from seamgraph.words import DOTS, TYPE_FIELD, split_words

DEEPEST_SELECTION = 10
MOST_FRAGMENTS = 10
NAMED_CONSTANTS = {"true": ("truth", True), "false": ("truth", False), "null": ("null",)}


class Document:
    """A document: its variables, its selection and its fragments."""

    def __init__(self, variables, selection, fragments):
        self.variables = variables
        self.selection = selection
        self.fragments = fragments

    def __eq__(self, other):
        return (
            isinstance(other, Document)
            and self.variables == other.variables
            and self.selection == other.selection
            and self.fragments == other.fragments
        )


class Reader:
    """The words of a text, and how many of them have been read."""

    def __init__(self, text):
        # The last entry is no word and fits no rule, so it is never read.
        self.words = split_words(text) + [(len(text), "end", "")]
        self.at = 0

    def ahead(self):
        """Returns the kind and the word that come next."""
        _, kind, word = self.words[self.at]
        return (kind, word)

    def refuse(self):
        """Raises InvalidDocument at the word that comes next."""
        place, _, _ = self.words[self.at]
        raise InvalidDocument(place)

    def take(self):
        """Reads the next word, whatever it is."""
        _, word = self.ahead()
        self.at += 1
        return word

    def sees(self, kind, word):
        """Tells whether this word comes next."""
        return self.ahead() == (kind, word)

    def accept(self, kind, word):
        """Reads this word if it comes next, and tells whether it did."""
        if not self.sees(kind, word):
            return False
        self.at += 1
        return True

    def expect(self, kind, word):
        """Reads this word, which must come next."""
        if not self.accept(kind, word):
            self.refuse()

    def expect_kind(self, kind):
        """Reads a word of this kind, which must come next."""
        found, _ = self.ahead()
        if found != kind:
            self.refuse()
        return self.take()

    def expect_name(self):
        """Reads a name, which must come next."""
        if self.sees("name", TYPE_FIELD):
            self.refuse()
        return self.expect_kind("name")


def parse_document(text):
    """Returns the Document that a text contains. Raises InvalidDocument."""
    reader = Reader(text)
    reader.expect("name", "query")
    variables = _read_declarations(reader)
    selection = _read_selection(reader, 1)
    fragments = _read_fragments(reader)
    return Document(variables, selection, fragments)


def _read_declarations(reader):
    if not reader.accept("sign", "("):
        return ()
    found = [_read_declaration(reader)]
    while not reader.accept("sign", ")"):
        found.append(_read_declaration(reader))
    return tuple(found)


def _read_declaration(reader):
    name = reader.expect_kind("variable")
    reader.expect("sign", ":")
    kind = _read_kind(reader, 0)
    default = None
    if reader.accept("sign", "="):
        default = _read_constant(reader)
    return (name, kind, default)


def _read_kind(reader, depth):
    """Reads a type that stands in as many lists as the depth tells."""
    bare = _read_bare_kind(reader, depth)
    if reader.accept("sign", "!"):
        return ("must", bare)
    return bare


def _read_bare_kind(reader, depth):
    # A list that is too deep is left to the reading of a name, which refuses it.
    if depth < DEEPEST_LIST and reader.accept("sign", "["):
        inner = _read_kind(reader, depth + 1)
        reader.expect("sign", "]")
        return ("list", inner)
    return ("name", reader.expect_name())


def _read_fragments(reader):
    found = []
    while not reader.sees("end", ""):
        if len(found) == MOST_FRAGMENTS:
            reader.refuse()
        found.append(_read_fragment(reader))
    return tuple(found)


def _read_fragment(reader):
    reader.expect("name", "fragment")
    # Behind the three dots, this name would mean something else.
    if reader.sees("name", "on"):
        reader.refuse()
    name = reader.expect_name()
    reader.expect("name", "on")
    type_name = reader.expect_name()
    return (name, type_name, _read_selection(reader, 1))


def _read_selection(reader, depth):
    if depth > DEEPEST_SELECTION:
        reader.refuse()
    reader.expect("sign", "{")
    parts = [_read_part(reader, depth)]
    while not reader.accept("sign", "}"):
        parts.append(_read_part(reader, depth))
    return tuple(parts)


def _read_part(reader, depth):
    if reader.accept("sign", DOTS):
        return _read_spread(reader, depth)
    return _read_field(reader, depth)


def _read_spread(reader, depth):
    """Reads what stands behind the three dots."""
    type_name = None
    if reader.accept("name", "on"):
        type_name = reader.expect_name()
    elif reader.ahead()[0] == "name":
        name = reader.expect_name()
        return ("spread", name, _read_conditions(reader))
    conditions = _read_conditions(reader)
    return ("on", type_name, conditions, _read_selection(reader, depth + 1))


def _read_field(reader, depth):
    key = reader.expect_kind("name")
    name = key
    # A colon behind this one is left to the next part, which refuses it.
    if key != TYPE_FIELD and reader.accept("sign", ":"):
        name = reader.expect_kind("name")
    arguments = _read_arguments(reader)
    conditions = _read_conditions(reader)
    selection = None
    if reader.sees("sign", "{"):
        selection = _read_selection(reader, depth + 1)
    return ("field", key, name, arguments, conditions, selection)


def _read_arguments(reader):
    if not reader.accept("sign", "("):
        return ()
    found = [_read_argument(reader)]
    while not reader.accept("sign", ")"):
        found.append(_read_argument(reader))
    return tuple(found)


def _read_argument(reader):
    name = reader.expect_name()
    reader.expect("sign", ":")
    return (name, _read_value(reader))


def _read_conditions(reader):
    found = []
    while reader.accept("sign", "@"):
        found.append(_read_condition(reader))
    return tuple(found)


def _read_condition(reader):
    """Reads what stands behind the sign of a condition."""
    _, word = reader.ahead()
    if not reader.accept("name", "if"):
        reader.expect("name", "unless")
    reader.expect("sign", "(")
    value = _read_value(reader)
    reader.expect("sign", ")")
    return (word, value)


def _read_value(reader):
    kind, _ = reader.ahead()
    if kind == "variable":
        return ("variable", reader.take())
    return _read_constant(reader)


def _read_constant(reader):
    kind, word = reader.ahead()
    if kind in ("number", "text"):
        return (kind, reader.take())
    if kind != "name" or word not in NAMED_CONSTANTS:
        reader.refuse()
    return NAMED_CONSTANTS[reader.take()]

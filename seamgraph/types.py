"""Names, scalars, and types as text and as value."""

from seamgraph.errors import InvalidType

SCALARS = ("Int", "Text", "Truth")
LONGEST_NAME = 30
DEEPEST_LIST = 5
LEAST_INT = -2147483648
GREATEST_INT = 2147483647
FIRST_CODE = 32
LAST_CODE = 126
# The percent sign is given by its code, because the language of the package
# does not allow the sign itself in a string.
EXCEPTED_CODE = 37


def is_name(text):
    """Returns True if a string is a name, otherwise False."""
    # Without this, the tests of characters below let foreign letters through.
    if not text.isascii():
        return False
    if not 1 <= len(text) <= LONGEST_NAME:
        return False
    return text[0].isalpha() and text.replace("_", "0").isalnum()


def fits(scalar, value):
    """Returns True if a value of any kind fits a scalar, otherwise False."""
    # True and False are integers to Python, but not to the scalars.
    if isinstance(value, bool):
        return scalar == "Truth"
    if isinstance(value, int):
        return scalar == "Int" and LEAST_INT <= value <= GREATEST_INT
    if isinstance(value, str):
        return scalar == "Text" and all([_is_plain(ord(sign)) for sign in value])
    return False


def fits_kind(kind, value):
    """Returns True if a value fits a type without a list, otherwise False.

    None fits if the type has no `!`.
    """
    if value is None:
        return kind[0] != "must"
    return fits(base_of(kind), value)


def _is_plain(code):
    return FIRST_CODE <= code <= LAST_CODE and code != EXCEPTED_CODE


def parse_type(text):
    """Returns the value of a type that is given as a text. Raises InvalidType."""
    return _parse_nested(text, 0)


def _parse_nested(text, depth):
    if text.endswith("!"):
        return ("must", _parse_bare(text[:-1], depth))
    return _parse_bare(text, depth)


def _parse_bare(text, depth):
    """Parses a type that has no `!` of its own."""
    # A list that is too deep is left to the test of the name, which it fails.
    if depth < DEEPEST_LIST and text.startswith("[") and text.endswith("]"):
        return ("list", _parse_nested(text[1:-1], depth + 1))
    if not is_name(text):
        raise InvalidType(f"not a name: {text}")
    return ("name", text)


def format_type(kind):
    """Returns the text of a type that is given as a value."""
    form, inner = kind
    if form == "must":
        return format_type(inner) + "!"
    if form == "list":
        return "[" + format_type(inner) + "]"
    return inner


def base_of(kind):
    """Returns the name in a type."""
    form, inner = kind
    while form != "name":
        form, inner = inner
    return inner


def has_list(kind):
    """Returns True if there is a list in a type, otherwise False."""
    form, inner = kind
    while form == "must":
        form, inner = inner
    return form == "list"

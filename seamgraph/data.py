"""The values of data, and what those that do not fit count as.

A failure is a pair, as in the data. A thing is what a field of an object type
or a union leads to: a triple of the name of its type, its key and the dict of
its values. An entity and the root keep no values of their own, an object has no
key. The nodes of answers are triples of the same form.
"""

from seamgraph.types import SCALARS, base_of, fits

BAD_VALUE = ("fails", "bad value")
UNKNOWN = ("fails", "unknown")


def is_failure(value):
    """Tells whether a value is a failure."""
    return isinstance(value, tuple) and len(value) == 2 and value[0] == "fails"


def is_thing(value):
    """Tells whether a value that was settled is a thing, or whether one of an answer is a node."""
    return isinstance(value, tuple) and len(value) == 3


def settle(schema, kind, value):
    """Returns what a value counts as where a type is due, with things for refs and objects."""
    if value is None or is_failure(value):
        return value
    form, inner = kind[1] if kind[0] == "must" else kind
    if form == "list":
        if not isinstance(value, list):
            return BAD_VALUE
        return [settle(schema, inner, item) for item in value]
    if inner in SCALARS:
        return value if fits(inner, value) else BAD_VALUE
    return _settle_object(schema, inner, value)


def _settle_object(schema, base, value):
    if not isinstance(value, tuple) or len(value) != 3:
        return BAD_VALUE
    form, name, rest = value
    if name not in schema.possible(base):
        return BAD_VALUE
    key_name = schema.key_names[name]
    if form == "object" and key_name is None:
        return (name, None, rest)
    if form == "ref" and key_name is not None and _key_fits(schema, name, key_name, rest):
        return (name, rest, None)
    return BAD_VALUE


def _key_fits(schema, name, key_name, key):
    return fits(base_of(schema.field(name, key_name).kind), key)


def pick(pairs, arguments):
    """Returns the value that a field with params has for these arguments."""
    if pairs is None:
        return None
    for known, value in pairs:
        if _are_same(known, arguments):
            return value
    return None


def _are_same(first, second):
    # 1 and True are equal to Python, but not of the same kind.
    return first == second and _truths_of(first) == _truths_of(second)


def _truths_of(arguments):
    return [isinstance(value, bool) for value in arguments]

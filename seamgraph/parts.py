"""What the parts of a selection have in common."""

from seamgraph.schema import ROOT, Field
from seamgraph.types import base_of
from seamgraph.words import TYPE_FIELD

TYPE_KIND = ("must", ("name", "Text"))


def arguments_of(part):
    """Returns the arguments of a part; only fields have any."""
    return part[3] if part[0] == "field" else ()


def conditions_of(part):
    """Returns the conditions of a part."""
    return part[4] if part[0] == "field" else part[2]


def selection_of(part):
    """Returns the selection of a part, or None if it has none of its own."""
    return None if part[0] == "spread" else part[-1]


def constant_value(constant):
    """Returns the value of a constant; the one of `null` is None."""
    return None if constant == ("null",) else constant[1]


def find_field(schema, type_name, name):
    """Returns the Field of an object type or union, or None if there is none.

    Every type has the field `_type`, which has no owner.
    """
    if name == TYPE_FIELD:
        return Field(TYPE_FIELD, (), TYPE_KIND, None)
    return schema.field(type_name, name)


def has_fields(schema, name):
    """Tells whether a base is an object type or a union."""
    return name in schema.types or name in schema.unions


def type_inside(schema, type_name, part):
    """Returns the type in which the selection of a part stands.

    It is None if there is no such type: inside a field that does not exist or
    has the type of a scalar.
    """
    if type_name is None:
        return None
    if part[0] == "on":
        return type_name if part[1] is None else part[1]
    field = find_field(schema, type_name, part[2])
    if field is None or not has_fields(schema, base_of(field.kind)):
        return None
    return base_of(field.kind)


def starts_of(document):
    """Lists the operation and the fragments: tuples (name, type, selection).

    The operation has the name None.
    """
    return [(None, ROOT, document.selection)] + list(document.fragments)

"""What makes a request one for a service."""

from seamgraph.schema import ROOT
from seamgraph.types import base_of, fits, fits_kind, is_name


def request_holds(schema, request):
    """Tells whether a request is one for the service with this part of the schema."""
    if not isinstance(request, tuple) or not all([_part_holds(schema, part) for part in request]):
        return False
    waiting = [_start_of(part) for part in request]
    while len(waiting) > 0:
        type_name, fields = waiting.pop()
        if not _fields_hold(schema, type_name, fields):
            return False
        waiting.extend([choice for row in fields for choice in row[3]])
    return True


def _start_of(part):
    """Returns the type and the fields with which a part begins."""
    return (ROOT if part[0] == "roots" else part[1], part[-1])


def _part_holds(schema, part):
    """Tells whether a part holds, apart from its fields."""
    if not isinstance(part, tuple) or len(part) not in (2, 4):
        return False
    if len(part) == 2:
        return part[0] == "roots" and ROOT in schema.types
    form, name, keys, _ = part
    return form == "keys" and _keys_hold(schema, name, keys)


def _keys_hold(schema, name, keys):
    key_name = schema.key_names.get(name) if isinstance(name, str) else None
    if key_name is None or not isinstance(keys, tuple):
        return False
    scalar = base_of(schema.field(name, key_name).kind)
    return all([fits(scalar, key) for key in keys]) and _are_different(keys)


def _fields_hold(schema, type_name, fields):
    """Tells whether fields hold, apart from those in their choices."""
    return (
        isinstance(fields, tuple)
        and all([_row_holds(schema, type_name, row) for row in fields])
        and _are_different([row[0] for row in fields])
    )


def _row_holds(schema, type_name, row):
    if not isinstance(row, tuple) or len(row) != 4:
        return False
    key, name, arguments, choices = row
    if not isinstance(key, str) or not is_name(key) or not isinstance(name, str):
        return False
    field = schema.field(type_name, name)
    return (
        field is not None
        and _arguments_hold(field, arguments)
        and _choices_hold(schema.possible(base_of(field.kind)), choices)
    )


def _arguments_hold(field, arguments):
    return (
        isinstance(arguments, tuple)
        and len(arguments) == len(field.params)
        and all([fits_kind(param[1], value) for param, value in zip(field.params, arguments)])
    )


def _choices_hold(possible, choices):
    return (
        isinstance(choices, tuple)
        and all([isinstance(choice, tuple) and len(choice) == 2 for choice in choices])
        and [choice[0] for choice in choices] == list(possible)
    )


def _are_different(texts):
    return len(set(texts)) == len(texts)

"""The rules by which a schema accepts a document."""

from seamgraph.merging import merges_hold
from seamgraph.parts import (
    arguments_of,
    conditions_of,
    constant_value,
    find_field,
    has_fields,
    selection_of,
    starts_of,
    type_inside,
)
from seamgraph.types import SCALARS, base_of, fits_kind, has_list

TRUTH_KIND = ("must", ("name", "Truth"))
FIRST_RULES = (1, 2)
LATER_RULES = (3, 4, 5, 6, 7, 8, 9, 10)


class Outline:
    """A document as the rules look at it.

    Its parts are pairs of a type and a part that stands in it; the type is None
    where only rules 7 and 10 are checked. Its fields are pairs of a Field and a
    part, leaving out those parts; the Field is None if it does not exist. Where
    a variable is declared twice, the first declaration counts.
    """

    def __init__(self, schema, document):
        self.schema = schema
        self.document = document
        self.parts = _parts_of(schema, document)
        self.fields = _fields_of(schema, self.parts)
        self.known = [(field, part) for field, part in self.fields if field is not None]
        self.declared = _declared_kinds(document)


def broken_rules(schema, document):
    """Returns the ascending tuple of the numbers of the broken rules."""
    outline = Outline(schema, document)
    # The later rules follow spreads, which must lead to a fragment and must not
    # lead back to it.
    return _broken_among(FIRST_RULES, outline) or _broken_among(LATER_RULES, outline)


def _broken_among(numbers, outline):
    broken = []
    for number in numbers:
        holds = RULES[number]
        if not holds(outline):
            broken.append(number)
    return tuple(broken)


def _parts_of(schema, document):
    found = []
    for _, type_name, selection in starts_of(document):
        found.extend(_parts_inside(schema, type_name, selection))
    return found


def _parts_inside(schema, type_name, selection):
    found = []
    for part in selection:
        found.append((type_name, part))
        inner = selection_of(part)
        if inner is not None:
            found.extend(_parts_inside(schema, type_inside(schema, type_name, part), inner))
    return found


def _fields_of(schema, parts):
    return [
        (find_field(schema, type_name, part[2]), part)
        for type_name, part in parts
        if type_name is not None and part[0] == "field"
    ]


def _declared_kinds(document):
    kinds = {}
    for name, kind, _ in document.variables:
        kinds.setdefault(name, kind)
    return kinds


def _are_different(values):
    return len(set(values)) == len(values)


# Each of the rules is a function that tells whether it holds.


def _names_hold(outline):
    """Rule 1: fragments have different names; spreads and types name what exists."""
    fragments = outline.document.fragments
    names = [name for name, _, _ in fragments]
    type_names = [type_name for _, type_name, _ in fragments]
    type_names.extend([part[1] for _, part in outline.parts if part[0] == "on" and part[1] is not None])
    return (
        _are_different(names)
        and all([part[1] in names for _, part in outline.parts if part[0] == "spread"])
        and all([has_fields(outline.schema, name) for name in type_names])
    )


def _ends_hold(outline):
    """Rule 2: no fragment contains itself."""
    inner_names = {}
    for name, _, selection in outline.document.fragments:
        inner_names.setdefault(name, []).extend(_spread_names(outline.schema, selection))
    return not any([name in _reached_names(inner_names, name) for name in inner_names])


def _spread_names(schema, selection):
    parts = _parts_inside(schema, None, selection)
    return [part[1] for _, part in parts if part[0] == "spread"]


def _reached_names(inner_names, name):
    """Returns a dict with the names of the fragments that a fragment contains."""
    reached = {}
    waiting = list(inner_names[name])
    while len(waiting) > 0:
        inner = waiting.pop()
        if inner not in reached:
            reached[inner] = True
            waiting.extend(inner_names.get(inner, []))
    return reached


def _fields_hold(outline):
    """Rule 3: fields exist."""
    return len(outline.known) == len(outline.fields)


def _selections_hold(outline):
    """Rule 4: fields of object types and unions have a selection, others do not."""
    return all([
        has_fields(outline.schema, base_of(field.kind)) == (selection_of(part) is not None)
        for field, part in outline.known
    ])


def _arguments_hold(outline):
    """Rule 5: arguments are params, given once, and those that must be given are."""
    return all([_names_of_arguments_hold(field, part) for field, part in outline.known])


def _names_of_arguments_hold(field, part):
    given = [name for name, _ in arguments_of(part)]
    params = [name for name, _, _ in field.params]
    due = [name for name, kind, default in field.params if kind[0] == "must" and default is None]
    return (
        _are_different(given)
        and all([name in params for name in given])
        and all([name in given for name in due])
    )


def _values_hold(outline):
    """Rule 6: arguments have values that fit their params."""
    return all([_values_of_arguments_hold(outline, field, part) for field, part in outline.known])


def _values_of_arguments_hold(outline, field, part):
    kinds = {name: kind for name, kind, _ in field.params}
    return all([
        _value_fits(outline, value, kinds[name])
        for name, value in arguments_of(part)
        if name in kinds
    ])


def _value_fits(outline, value, kind):
    if value[0] != "variable":
        return _constant_fits(value, kind)
    # A variable that is not declared is left to rule 7.
    return _kind_fits(outline.declared.get(value[1], kind), kind)


def _kind_fits(kind, due):
    """Tells whether a variable of one type may be given where the other is due."""
    if has_list(kind) or base_of(kind) != base_of(due):
        return False
    return kind[0] == "must" or due[0] != "must"


def _constant_fits(constant, kind):
    return fits_kind(kind, constant_value(constant))


def _variables_hold(outline):
    """Rule 7: variables have different names, types that fit, and are declared."""
    variables = outline.document.variables
    used = [value[1] for value in _values_of(outline) if value[0] == "variable"]
    return (
        _are_different([name for name, _, _ in variables])
        and all([_declaration_holds(kind, default) for _, kind, default in variables])
        and all([name in outline.declared for name in used])
    )


def _values_of(outline):
    """Lists the values of all arguments and conditions."""
    return [
        value
        for _, part in outline.parts
        for _, value in arguments_of(part) + conditions_of(part)
    ]


def _declaration_holds(kind, default):
    if has_list(kind) or base_of(kind) not in SCALARS:
        return False
    return default is None or _constant_fits(default, kind)


def _places_hold(outline):
    """Rule 8: parts stand where they can apply."""
    return all([_have_common(outline.schema, first, second) for first, second in _meetings(outline)])


def _meetings(outline):
    """Lists pairs of the type in which a part stands and the one that it is for."""
    due_types = {name: type_name for name, type_name, _ in outline.document.fragments}
    placed = [(type_name, part) for type_name, part in outline.parts if type_name is not None]
    spreads = [(type_name, due_types[part[1]]) for type_name, part in placed if part[0] == "spread"]
    ons = [(type_name, part[1]) for type_name, part in placed if part[0] == "on" and part[1] is not None]
    return spreads + ons


def _have_common(schema, first, second):
    return any([name in schema.possible(second) for name in schema.possible(first)])


def _merges_hold(outline):
    """Rule 9: fields with the same key agree."""
    return merges_hold(outline.schema, outline.document)


def _conditions_hold(outline):
    """Rule 10: conditions are True, False, or variables that are."""
    values = [value for _, part in outline.parts for _, value in conditions_of(part)]
    return all([_is_truth(outline, value) for value in values])


def _is_truth(outline, value):
    if value[0] != "variable":
        return value[0] == "truth"
    # A variable that is not declared is left to rule 7.
    return outline.declared.get(value[1], TRUTH_KIND) == TRUTH_KIND


RULES = {
    1: _names_hold,
    2: _ends_hold,
    3: _fields_hold,
    4: _selections_hold,
    5: _arguments_hold,
    6: _values_hold,
    7: _variables_hold,
    8: _places_hold,
    9: _merges_hold,
    10: _conditions_hold,
}

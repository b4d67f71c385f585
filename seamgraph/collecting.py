"""The variables that are given, and how the fields of a selection are collected."""

from seamgraph.errors import InvalidVariables
from seamgraph.parts import conditions_of, constant_value, find_field, selection_of
from seamgraph.types import fits_kind


class Group:
    """The fields of a selection that have the same key."""

    def __init__(self, key, name, arguments, selection):
        self.key = key
        self.name = name
        self.arguments = arguments
        self.selection = selection


class Scope:
    """What collecting looks at, apart from the selection and its type."""

    def __init__(self, schema, document, variables):
        self.schema = schema
        self.variables = variables
        self.fragments = {name: (type_name, selection) for name, type_name, selection in document.fragments}


def variables_of(document, given):
    """Returns the dict of the values of the variables that are not absent.

    Raises InvalidVariables.
    """
    kinds = {name: kind for name, kind, _ in document.variables}
    for name in given:
        if name not in kinds or not fits_kind(kinds[name], given[name]):
            raise InvalidVariables(f"not a variable of the document, or not a value for it: {name}")
    found = {}
    for name, kind, default in document.variables:
        if name in given:
            found[name] = given[name]
        elif default is not None:
            found[name] = constant_value(default)
        elif kind[0] == "must":
            raise InvalidVariables(f"the variable must be given: {name}")
    return found


def collect(schema, document, variables, type_name, selection):
    """Returns the list of the Groups of a selection for an object type."""
    return collect_groups(Scope(schema, document, variables), type_name, selection, True)


def collect_groups(scope, type_name, selection, again):
    """Returns the list of the Groups of a selection for an object type.

    If `again` is False, a fragment is gone through only where it is first
    spread. The groups are the same, but their selections do not repeat what
    stands in them already. Otherwise a document with fragments that spread one
    another many times could ask for more fields than there is time for.
    """
    found = {}
    entered = {}
    waiting = list(reversed(selection))
    while len(waiting) > 0:
        part = waiting.pop()
        if not _applies(scope, type_name, part):
            continue
        if part[0] == "field":
            found.setdefault(part[1], []).append(part)
        elif part[0] == "on":
            waiting.extend(list(reversed(part[3])))
        elif again or part[1] not in entered:
            entered[part[1]] = True
            _, inner = scope.fragments[part[1]]
            waiting.extend(list(reversed(inner)))
    return [_group_of(scope, type_name, fields) for fields in found.values()]


def _applies(scope, type_name, part):
    for word, value in conditions_of(part):
        # An absent variable is neither True nor False, so that nothing holds.
        if _value_of(scope.variables, value) != (word == "if"):
            return False
    if part[0] == "field":
        return True
    due = part[1] if part[0] == "on" else scope.fragments[part[1]][0]
    return due is None or type_name in scope.schema.possible(due)


def _value_of(variables, value):
    """Returns what a value stands for; an absent variable stands for None."""
    if value[0] == "variable":
        return variables.get(value[1])
    return constant_value(value)


def _group_of(scope, type_name, fields):
    _, key, name, arguments, _, _ = fields[0]
    field = find_field(scope.schema, type_name, name)
    # A field of a scalar has no selection.
    selection = [part for row in fields for part in selection_of(row) or ()]
    return Group(key, name, _fill_params(field.params, arguments, scope.variables), tuple(selection))


def _fill_params(params, arguments, variables):
    given = {
        name: _value_of(variables, value)
        for name, value in arguments
        if value[0] != "variable" or value[1] in variables
    }
    return tuple([given.get(name, default) for name, _, default in params])

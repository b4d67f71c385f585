"""The rule that fields with the same key agree wherever they meet."""

from seamgraph.parts import find_field, starts_of
from seamgraph.types import base_of

# A selection is known by its path: the name of its fragment, or None in the
# operation, and the indexes of the parts that lead to it.


def merges_hold(schema, document):
    """Tells whether fields with the same key agree (rule 9)."""
    starts = starts_of(document)
    fragments = {name: (type_name, selection) for name, type_name, selection in starts}
    waiting = [(type_name, [((name,), selection)]) for name, type_name, selection in starts]
    # Many spreads may lead to the same selections; each is looked at only once.
    seen = set()
    while len(waiting) > 0:
        type_name, selections = waiting.pop()
        state = (type_name, tuple([path for path, _ in selections]))
        if state in seen:
            continue
        seen.add(state)
        for object_type in schema.possible(type_name):
            groups = _group_fields(schema, fragments, object_type, type_name, selections)
            if not all([_fields_agree(group) for group in groups]):
                return False
            waiting.extend(_inner_selections(schema, object_type, groups))
    return True


def _group_fields(schema, fragments, object_type, type_name, selections):
    """Lists the groups of fields with the same key that can apply to a type.

    A group is a list of pairs of a path and a field.
    """
    groups = {}
    waiting = [(type_name, path, selection) for path, selection in selections]
    entered = set()
    while len(waiting) > 0:
        here, path, selection = waiting.pop()
        for index, part in enumerate(selection):
            if part[0] == "field":
                if find_field(schema, here, part[2]) is not None:
                    groups.setdefault(part[1], []).append((path + (index,), part))
                continue
            inner = _enter(fragments, here, path + (index,), part)
            if object_type in schema.possible(inner[0]) and inner[1] not in entered:
                entered.add(inner[1])
                waiting.append(inner)
    return list(groups.values())


def _enter(fragments, type_name, path, part):
    """Returns the type, the path and the selection that a part leads to."""
    if part[0] == "spread":
        inner_type, selection = fragments[part[1]]
        return (inner_type, (part[1],), selection)
    inner_type = type_name if part[1] is None else part[1]
    return (inner_type, path, part[3])


def _fields_agree(group):
    _, first = group[0]
    return all([
        part[2] == first[2] and sorted(part[3]) == sorted(first[3])
        for _, part in group
    ])


def _inner_selections(schema, object_type, groups):
    """Lists the types and the selections, taken together, inside groups."""
    found = []
    for group in groups:
        _, first = group[0]
        base = base_of(find_field(schema, object_type, first[2]).kind)
        # Nothing inside a scalar is looked at, because it has no possible types.
        found.append((base, [(path, part[5]) for path, part in group if part[5] is not None]))
    return found

"""Services, the rules by which they compose, and the whole schema."""

from seamgraph.errors import InvalidSchema, InvalidType
from seamgraph.types import SCALARS, base_of, fits, has_list, is_name, parse_type

ROOT = "Query"
KEY_TEXTS = ("Int!", "Text!")


class Service:
    """A service's part of the schema: its name, object types and unions."""

    def __init__(self, name, types, unions):
        self.name = name
        self.types = types
        self.unions = unions


class Field:
    """A field of the whole schema; the owner of a key is None."""

    def __init__(self, name, params, kind, owner):
        self.name = name
        self.params = params
        self.kind = kind
        self.owner = owner


class Schema:
    """The whole schema: all types with all their fields, and all unions."""

    def __init__(self, types, key_names, unions):
        self.types = types
        self.key_names = key_names
        self.unions = unions

    def possible(self, name):
        """Returns the possible types of an object type or union.

        A name that is neither has none.
        """
        if name in self.types:
            return (name,)
        return self.unions.get(name, ())

    def field(self, type_name, name):
        """Returns the Field of an object type, or None if there is none."""
        fields = self.types.get(type_name, {})
        return fields.get(name)


def compose(services):
    """Returns the whole Schema of a list of services. Raises InvalidSchema."""
    for number in RULES:
        holds = RULES[number]
        if not holds(services):
            raise InvalidSchema(number)
    return schema_of(services)


def schema_of(services):
    """Returns the Schema of a list of services that compose, or of a single one of them."""
    return Schema(_whole_types(services), _whole_keys(services), _whole_unions(services))


def _whole_types(services):
    whole = {}
    for service in services:
        for name, key, fields in service.types:
            known = whole.setdefault(name, {})
            for field in fields:
                known[field[0]] = _whole_field(field, key, service.name)
    return whole


def _whole_field(field, key, service_name):
    name, params, text = field
    owner = None if name == key else service_name
    return Field(name, tuple([_whole_param(param) for param in params]), parse_type(text), owner)


def _whole_param(param):
    name, text, default = param
    return (name, parse_type(text), default)


def _whole_keys(services):
    return {name: key for name, key, _ in _all_types(services)}


def _whole_unions(services):
    return {name: members for service in services for name, members in service.unions}


def _all_types(services):
    """Lists the object types of all services, in order."""
    return [entry for service in services for entry in service.types]


def _type_names(service):
    return [entry[0] for entry in service.types]


def _union_names(service):
    return [name for name, _ in service.unions]


# Each of the following seven functions tells whether one rule holds; it relies
# on the rules before its own.


def _names_hold(services):
    """Rule 1: names are names, and different where they stand together."""
    if not _are_names([service.name for service in services]):
        return False
    return all([_service_names_hold(service) for service in services])


def _service_names_hold(service):
    names = _type_names(service) + _union_names(service)
    if not _are_names(names) or any([name in SCALARS for name in names]):
        return False
    return all([_field_names_hold(fields) for _, _, fields in service.types])


def _field_names_hold(fields):
    if not _are_names([field[0] for field in fields]):
        return False
    return all([_are_names([param[0] for param in params]) for _, params, _ in fields])


def _are_names(texts):
    return all([is_name(text) for text in texts]) and _are_different(texts)


def _are_different(values):
    return len(set(values)) == len(values)


def _texts_hold(services):
    """Rule 2: the texts of types are types with bases that may stand there."""
    return all([_service_texts_hold(service) for service in services])


def _service_texts_hold(service):
    names = list(SCALARS) + _type_names(service) + _union_names(service)
    bases = [name for name in names if name != ROOT]
    return all([_field_holds(field, bases) for _, _, fields in service.types for field in fields])


def _field_holds(field, bases):
    _, params, text = field
    kind = _kind_or_none(text)
    if kind is None or base_of(kind) not in bases:
        return False
    return all([_param_holds(param) for param in params])


def _param_holds(param):
    _, text, default = param
    kind = _kind_or_none(text)
    if kind is None or has_list(kind) or base_of(kind) not in SCALARS:
        return False
    return default is None or fits(base_of(kind), default)


def _kind_or_none(text):
    try:
        return parse_type(text)
    except InvalidType:
        return None


def _keys_hold(services):
    """Rule 3: keys are fields that can be keys."""
    return all([_key_holds(name, key, fields) for name, key, fields in _all_types(services)])


def _key_holds(name, key, fields):
    if key is None:
        return True
    if name == ROOT:
        return False
    found = [field for field in fields if field[0] == key]
    return any([len(params) == 0 and text in KEY_TEXTS for _, params, text in found])


def _unions_hold(services):
    """Rule 4: unions have members, and names that nothing else has."""
    names = [name for service in services for name in _union_names(service)]
    taken = [entry[0] for entry in _all_types(services)]
    if not _are_different(names) or any([name in taken for name in names]):
        return False
    return all([_own_unions_hold(service) for service in services])


def _own_unions_hold(service):
    names = [name for name in _type_names(service) if name != ROOT]
    return all([_members_hold(members, names) for _, members in service.unions])


def _members_hold(members, names):
    if len(members) == 0 or not _are_different(members):
        return False
    return all([member in names for member in members])


def _shared_types_hold(services):
    """Rule 5: a type of several services has the same key in each of them."""
    found = {}
    for name, key, fields in _all_types(services):
        found.setdefault(name, []).append(_key_with_text(key, fields))
    return all([_keys_agree(keys) for name, keys in found.items() if name != ROOT])


def _key_with_text(key, fields):
    """Returns the name and the text of the key, or None if there is no key."""
    for name, _, text in fields:
        if name == key:
            return (name, text)
    return None


def _keys_agree(keys):
    if len(keys) == 1:
        return True
    return keys[0] is not None and all([key == keys[0] for key in keys])


def _fields_hold(services):
    """Rule 6: only keys stand in two services."""
    owned = [
        (name, field[0])
        for name, key, fields in _all_types(services)
        for field in fields
        if field[0] != key
    ]
    return _are_different(owned)


def _root_holds(services):
    """Rule 7: there is a field with which a document can begin."""
    return any([name == ROOT and len(fields) > 0 for name, _, fields in _all_types(services)])


RULES = {
    1: _names_hold,
    2: _texts_hold,
    3: _keys_hold,
    4: _unions_hold,
    5: _shared_types_hold,
    6: _fields_hold,
    7: _root_holds,
}

"""The data of a service, and its answers to requests."""

from seamgraph.data import UNKNOWN, is_thing, pick, settle
from seamgraph.errors import InvalidRequest
from seamgraph.requests import request_holds
from seamgraph.schema import ROOT, schema_of


class Store:
    """A service with its data: the root values and the records."""

    def __init__(self, service, roots, records):
        self.service = service
        self.roots = roots
        self.records = records
        self.part = schema_of([service])

    def answer(self, request):
        """Returns the answer to a request. Raises InvalidRequest."""
        if not request_holds(self.part, request):
            raise InvalidRequest(f"not a request for the service {self.service.name}")
        waiting = []
        answers = tuple([_begin_answer(part, waiting) for part in request])
        while len(waiting) > 0:
            thing, fields, found = waiting.pop()
            for key, name, arguments, choices in fields:
                found[key] = _begin_value(self.look_up(thing, name, arguments), dict(choices), waiting)
        return answers

    def look_up(self, thing, name, arguments):
        """Returns the value of a field of a thing, as far as this service knows it."""
        type_name, key, _ = thing
        if name == self.part.key_names[type_name]:
            return key
        known = self._known_of(thing)
        if known is None:
            return UNKNOWN
        field = self.part.field(type_name, name)
        value = known.get(name)
        if len(field.params) > 0:
            value = pick(value, arguments)
        return settle(self.part, field.kind, value)

    def _known_of(self, thing):
        """Returns the dict of the values of a thing, or None if there is no record."""
        type_name, key, own = thing
        if type_name == ROOT:
            return self.roots
        if key is None:
            return own
        return self.records.get((type_name, key))


# The following functions begin nodes whose values are found later: each of them
# waits as its thing, the fields that it must have, and the dict for its values.
# So nodes may stand in each other as deep as they like.


def _begin_answer(part, waiting):
    if part[0] == "roots":
        return _begin_node((ROOT, None, None), part[1], waiting)
    _, type_name, keys, fields = part
    return tuple([_begin_node((type_name, key, None), fields, waiting) for key in keys])


def _begin_value(value, choices, waiting):
    if isinstance(value, list):
        return [_begin_value(item, choices, waiting) for item in value]
    if not is_thing(value):
        return value
    return _begin_node(value, choices[value[0]], waiting)


def _begin_node(thing, fields, waiting):
    found = {}
    waiting.append((thing, fields, found))
    return (thing[0], thing[1], found)

"""How the values that are not known are asked of services."""

from seamgraph.nodes import plant
from seamgraph.schema import ROOT
from seamgraph.words import TYPE_FIELD


class Wording:
    """The fields of requests, as they are written for views and services.

    Each pair of a type and its fields has a number of its own.
    """

    def __init__(self, reading):
        self.reading = reading
        self.numbers = {}
        self.written = {}

    def fields_for(self, view, service_name):
        """Returns the number and the tuple of the fields that a service is asked for."""
        place = (view.number, service_name)
        if place not in self.written:
            self._write_all(view, service_name)
        return self.written[place]

    def _write_all(self, view, service_name):
        """Writes a view, and before it the views inside it."""
        waiting = [view]
        while len(waiting) > 0:
            here = waiting[-1]
            missing = self._missing_inside(here, service_name)
            waiting.extend(missing)
            if len(missing) == 0:
                waiting.pop()
                self.written[(here.number, service_name)] = self._write(here, service_name)

    def _missing_inside(self, view, service_name):
        """Lists the views inside a view that must be written before it."""
        return [
            inner
            for group, field in _pairs_for(view, service_name)
            for inner in self.reading.views_inside(view, group, field)
            if (inner.number, service_name) not in self.written
        ]

    def _write(self, view, service_name):
        # The marks tell the fields as well as the rows do, but they stay flat,
        # however deep the choices are.
        marks = []
        rows = []
        for group, field in _pairs_for(view, service_name):
            inner_views = self.reading.views_inside(view, group, field)
            inner = [(place.type_name, self.written[(place.number, service_name)]) for place in inner_views]
            start = (group.key, group.name, group.arguments)
            marks.append(start + (tuple([(name, number) for name, (number, _) in inner]),))
            rows.append(start + (tuple([(name, fields) for name, (_, fields) in inner]),))
        mark = (view.type_name, tuple(marks))
        return (self.numbers.setdefault(mark, len(self.numbers)), tuple(rows))


def _pairs_for(view, service_name):
    """Lists those pairs of a view that a service is asked for: its own groups and the keys."""
    return [
        (group, field)
        for group, field in view.pairs
        if field.owner == service_name or (field.owner is None and group.name != TYPE_FIELD)
    ]


class Part:
    """A part of a request: where it stands, and the places of its keys."""

    def __init__(self, at, type_name, fields):
        self.at = at
        self.type_name = type_name
        self.fields = fields
        self.places = {}

    def as_sent(self):
        """Returns the part as it is sent."""
        if self.type_name == ROOT:
            return ("roots", self.fields)
        return ("keys", self.type_name, tuple(self.places), self.fields)


class Request:
    """A request to a service, and the open objects that its answer is for."""

    def __init__(self, wording, service_name, nodes):
        self.service_name = service_name
        self.parts = {}
        self.asked = []
        for node in nodes:
            self._ask(node, wording)

    def _ask(self, node, wording):
        number, fields = wording.fields_for(node.view, self.service_name)
        if number not in self.parts:
            self.parts[number] = Part(len(self.parts), node.view.type_name, fields)
        part = self.parts[number]
        place = part.places.setdefault(node.key, len(part.places))
        self.asked.append((node, part.at, place))

    def as_sent(self):
        """Returns the request as it is sent."""
        return tuple([part.as_sent() for part in self.parts.values()])

    def refuse(self):
        """Lets all that was asked fail, because the service is down."""
        for node, _, _ in self.asked:
            for group, field in node.view.pairs:
                if field.owner == self.service_name:
                    node.known[group.key] = ("fails", f"down {self.service_name}")

    def absorb(self, reading, answer):
        """Takes over the values of an answer. Returns the objects that it opens, in order."""
        opened = []
        for node, at, place in self.asked:
            # The part of the root has a single node, the others have one for each key.
            found = answer[at] if node.key is None else answer[at][place]
            opened.extend(_absorb_node(reading, self.service_name, node, found))
        return opened


def _absorb_node(reading, service_name, node, found):
    met = []
    waiting = [(node, found)]
    while len(waiting) > 0:
        here, (_, _, told) = waiting.pop()
        met.append(here)
        for group, field in here.view.pairs:
            if field.owner == service_name:
                here.known[group.key] = plant(reading, here.view, group, told[group.key], waiting)
    # The last ones inside an object are met first. So the reverse has the
    # objects in order, each behind those that stand in it.
    return [inner for inner in reversed(met[1:]) if len(inner.missing_owners()) > 0]

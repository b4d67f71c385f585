"""How a response is completed from the objects whose values are known."""

from seamgraph.data import is_failure
from seamgraph.nodes import Node
from seamgraph.schema import ROOT


class Place:
    """A place of a response: its path, the type that is due there, and the value.

    The data begin as what the value would give if nothing inside it climbed;
    containers are filled later, but have all their keys and indexes.
    """

    def __init__(self, above, path, kind, value):
        self.above = above
        self.path = path
        self.must = kind[0] == "must"
        self.bare = kind[1] if self.must else kind
        self.value = value
        self.data = _first_data(value)

    def places_inside(self):
        """Lists the places of the elements or of the groups, in order."""
        if isinstance(self.value, list):
            inner = self.bare[1]
            return [Place(self, self.path + (at,), inner, item) for at, item in enumerate(self.value)]
        if isinstance(self.value, Node):
            known = self.value.known
            return [
                Place(self, self.path + (group.key,), field.kind, known[group.key])
                for group, field in self.value.view.pairs
            ]
        return []

    def error_reason(self):
        """Returns the reason of the error that this place has of its own, or None."""
        if is_failure(self.value):
            return self.value[1]
        # What climbs has an error already, so only a value that is missing here
        # is told.
        if self.value is None and self.must:
            return "null"
        return None

    def hand_up(self):
        """Gives the data to the place above, or climbs there."""
        above = self.above
        if above.data is None:
            return
        if self.data is None and self.must:
            above.data = None
        else:
            above.data[self.path[-1]] = self.data


def _first_data(value):
    if isinstance(value, list):
        return [None for _ in value]
    if isinstance(value, Node):
        return {group.key: None for group, _ in value.view.pairs}
    return None if is_failure(value) else value


def complete(root):
    """Returns the response: the data of the Node of the root, and the errors."""
    top = Place(None, (), ("name", ROOT), root)
    errors = []
    below = []
    waiting = [top]
    while len(waiting) > 0:
        place = waiting.pop()
        reason = place.error_reason()
        if reason is not None:
            errors.append((place.path, reason))
        inner = place.places_inside()
        below.extend(inner)
        waiting.extend(list(reversed(inner)))
    # Each place stands behind the one above it, so that it is complete before
    # that one is handed up.
    for place in reversed(below):
        place.hand_up()
    return (top.data, errors)

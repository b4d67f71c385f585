"""The objects of a response, while their values are being found."""

from seamgraph.data import is_thing
from seamgraph.words import TYPE_FIELD


class Node:
    """An object: what is asked of it, and the values of those groups that are known.

    The values are settled ones, with Nodes in place of the things in them.
    """

    def __init__(self, view, key):
        self.view = view
        self.key = key
        self.known = {}
        for group, field in view.pairs:
            if group.name == TYPE_FIELD:
                self.known[group.key] = view.type_name
            elif field.owner is None:
                self.known[group.key] = key

    def missing_owners(self):
        """Lists the owners of the groups that are not known, each once."""
        owners = {field.owner: True for group, field in self.view.pairs if group.key not in self.known}
        return list(owners)


def plant(reading, view, group, value, planted):
    """Returns the value of a group of a view, with Nodes in place of the things in it.

    The Nodes are added to a list, in order, each beside its thing.
    """
    if isinstance(value, list):
        return [plant(reading, view, group, item, planted) for item in value]
    if not is_thing(value):
        return value
    node = Node(reading.view_inside(view, group, value[0]), value[1])
    planted.append((node, value))
    return node

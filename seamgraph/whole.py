"""Documents that are executed on the data of all services at once."""

from seamgraph.collecting import variables_of
from seamgraph.completing import complete
from seamgraph.nodes import Node, plant
from seamgraph.reading import Reading
from seamgraph.schema import ROOT


def execute(schema, stores, down, document, given):
    """Returns the response of a document, where some services are down.

    Raises InvalidVariables.
    """
    reading = Reading(schema, document, variables_of(document, given))
    owners = {store.service.name: store for store in stores}
    root = Node(reading.root, None)
    waiting = [(root, (ROOT, None, None))]
    while len(waiting) > 0:
        node, thing = waiting.pop()
        for group, field in node.view.pairs:
            if group.key not in node.known:
                value = _find_value(owners, down, thing, group, field)
                node.known[group.key] = plant(reading, node.view, group, value, waiting)
    return complete(root)


def _find_value(owners, down, thing, group, field):
    if field.owner in down:
        return ("fails", f"down {field.owner}")
    store = owners[field.owner]
    return store.look_up(thing, group.name, group.arguments)

"""The gateway, which asks the services in rounds, and the bound of what it sends."""

from seamgraph.asking import Request, Wording
from seamgraph.collecting import variables_of
from seamgraph.completing import complete
from seamgraph.nodes import Node
from seamgraph.reading import Reading


def bound(schema, document, given):
    """Returns the most rounds and requests that a document takes. Raises InvalidVariables."""
    reading = Reading(schema, document, variables_of(document, given))
    asked = {}
    seen = set()
    waiting = [(reading.root, 0, None)]
    while len(waiting) > 0:
        view, level, owner = waiting.pop()
        # Many places of a document may lead to the same view.
        if (view.number, level, owner) in seen:
            continue
        seen.add((view.number, level, owner))
        for group, field in view.pairs:
            if field.owner is not None:
                own_level = level if field.owner == owner else level + 1
                asked[(own_level, field.owner)] = True
                for inner in reading.views_inside(view, group, field):
                    waiting.append((inner, own_level, field.owner))
    return (max([level for level, _ in asked], default=0), len(asked))


class Gateway:
    """Runs documents by asking the services; its log tells the requests of the last run."""

    def __init__(self, schema, stores, down):
        self.schema = schema
        self.stores = {store.service.name: store for store in stores}
        self.down = down
        self.log = []

    def run(self, document, given):
        """Returns the response of a document. Raises InvalidVariables."""
        self.log = []
        reading = Reading(self.schema, document, variables_of(document, given))
        wording = Wording(reading)
        root = Node(reading.root, None)
        # If no service owns anything of the root, its round sends no request.
        opened = [root]
        number = 0
        while len(opened) > 0:
            number += 1
            requests = _requests_for(wording, opened)
            opened = []
            for request in requests:
                opened.extend(self._send(number, request, reading))
        return complete(root)

    def _send(self, number, request, reading):
        """Sends a request, and returns the objects that its answer opens."""
        name = request.service_name
        sent = request.as_sent()
        self.log.append((number, name, sent))
        if name in self.down:
            request.refuse()
            return []
        store = self.stores[name]
        return request.absorb(reading, store.answer(sent))


def _requests_for(wording, opened):
    """Lists the requests of a round, in the order of the names of the services."""
    asked = {}
    for node in opened:
        for owner in node.missing_owners():
            asked.setdefault(owner, []).append(node)
    return [Request(wording, owner, asked[owner]) for owner in sorted(asked)]

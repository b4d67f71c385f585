"""A document that is read for a schema: what is selected of objects."""

from seamgraph.collecting import Scope, collect_groups
from seamgraph.parts import find_field
from seamgraph.schema import ROOT
from seamgraph.types import base_of


class View:
    """What a selection asks of an object type: pairs of a Group and its Field.

    Each view has a number of its own.
    """

    def __init__(self, number, type_name, pairs):
        self.number = number
        self.type_name = type_name
        self.pairs = pairs


class Reading:
    """A document, with the values of its variables, as it is read for a schema."""

    def __init__(self, schema, document, variables):
        self.schema = schema
        self.scope = Scope(schema, document, variables)
        # Views are kept, because the same selection is met for many objects, and
        # at many places of a document.
        self.views = {}
        self.inner_views = {}
        self.root = self._view_of(ROOT, document.selection)

    def view_inside(self, view, group, type_name):
        """Returns the view of a group of another view, for a type that is possible there."""
        place = (view.number, group.key, type_name)
        if place not in self.inner_views:
            self.inner_views[place] = self._view_of(type_name, group.selection)
        return self.inner_views[place]

    def views_inside(self, view, group, field):
        """Lists the views of a group of another view, one for each possible type."""
        possible = self.schema.possible(base_of(field.kind))
        return [self.view_inside(view, group, type_name) for type_name in possible]

    def _view_of(self, type_name, selection):
        place = (type_name, repr(selection))
        if place not in self.views:
            groups = collect_groups(self.scope, type_name, selection, False)
            pairs = [(group, find_field(self.schema, type_name, group.name)) for group in groups]
            self.views[place] = View(len(self.views), type_name, pairs)
        return self.views[place]

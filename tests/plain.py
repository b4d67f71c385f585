"""Points 17 to 26 once more, as plainly as the document says them.

Everything here recurses straight on, and keeps nothing, so that the program
can be compared with it.
"""

from seamgraph.types import base_of, fits

BAD = ("fails", "bad value")


class Climbs(Exception):
    """A null that climbs."""


class Plain:
    def __init__(self, services, schema, data, down, document, variables):
        self.services = {service.name: service for service in services}
        self.schema = schema
        self.data = data
        self.down = down
        self.document = document
        self.variables = variables
        self.fragments = {name: (type_name, parts) for name, type_name, parts in document.fragments}
        self.errors = []
        self.pairs = set()

    def value(self, value):
        if value[0] == "variable":
            return self.variables[value[1]]
        return value[1] if len(value) > 1 else None

    def fields(self, type_name, selection):
        for part in selection:
            conditions = part[4] if part[0] == "field" else part[2]
            if not all(self.value(value) is (word == "if") for word, value in conditions):
                continue
            if part[0] == "field":
                yield part
            elif part[0] == "on":
                if part[1] is None or type_name in self.schema.possible(part[1]):
                    yield from self.fields(type_name, part[3])
            elif type_name in self.schema.possible(self.fragments[part[1]][0]):
                yield from self.fields(type_name, self.fragments[part[1]][1])

    def groups(self, type_name, selection):
        """Returns tuples (key, name, arguments, selection, kind, owner)."""
        found = {}
        for part in self.fields(type_name, selection):
            found.setdefault(part[1], []).append(part)
        rows = []
        for key, parts in found.items():
            name = parts[0][2]
            inner = tuple(one for part in parts for one in (part[5] or ()))
            if name == "_type":
                rows.append((key, name, (), inner, ("must", ("name", "Text")), None))
                continue
            field = self.schema.field(type_name, name)
            given = dict(parts[0][3])
            arguments = []
            for param, _, default in field.params:
                value = given.get(param)
                absent = value is None or (value[0] == "variable" and value[1] not in self.variables)
                arguments.append(default if absent else self.value(value))
            rows.append((key, name, tuple(arguments), inner, field.kind, field.owner))
        return rows

    # Executing

    def raw(self, thing, name, arguments, owner):
        type_name, key, own = thing
        if name == "_type":
            return type_name
        if owner is None:
            return key
        roots, records = self.data[owner]
        if own is not None:
            known = own
        elif owner in self.down:
            return ("fails", "down " + owner)
        elif type_name == "Query":
            known = roots
        elif (type_name, key) in records:
            known = records[(type_name, key)]
        else:
            return ("fails", "unknown")
        value = known.get(name)
        if self.schema.field(type_name, name).params and value is not None:
            for pair, worth in value:
                if repr(pair) == repr(arguments):
                    return worth
            return None
        return value

    def bare(self, kind, selection, path, value):
        if isinstance(value, tuple) and value[0] == "fails":
            self.errors.append((path, value[1]))
            return None, True
        if value is None:
            return None, False
        if kind[0] == "list":
            if not isinstance(value, list):
                return self.bare(kind, selection, path, BAD)
            found, climbs = [], False
            for at, item in enumerate(value):
                try:
                    found.append(self.complete(kind[1], selection, path + (at,), item))
                except Climbs:
                    climbs = True
            return (None, True) if climbs else (found, False)
        base = kind[1]
        if base in ("Int", "Text", "Truth"):
            return (value, False) if fits(base, value) else self.bare(kind, selection, path, BAD)
        thing = self.thing(base, value)
        if thing is None:
            return self.bare(kind, selection, path, BAD)
        return self.object(thing, selection, path)

    def thing(self, base, value):
        if not isinstance(value, tuple) or value[1] not in self.schema.possible(base):
            return None
        form, name, rest = value
        key_name = self.schema.key_names[name]
        if form == "object" and key_name is None:
            return (name, None, rest)
        if form == "ref" and key_name is not None and fits(base_of(self.schema.field(name, key_name).kind), rest):
            return (name, rest, None)
        return None

    def complete(self, kind, selection, path, value):
        found, told = self.bare(kind[1] if kind[0] == "must" else kind, selection, path, value)
        if found is None and kind[0] == "must":
            if not told:
                self.errors.append((path, "null"))
            raise Climbs()
        return found

    def object(self, thing, selection, path):
        found, climbs = {}, False
        for key, name, arguments, inner, kind, owner in self.groups(thing[0], selection):
            try:
                found[key] = self.complete(kind, inner, path + (key,), self.raw(thing, name, arguments, owner))
            except Climbs:
                climbs = True
        return (None, True) if climbs else (found, False)

    def response(self):
        data, _ = self.object(("Query", None, None), self.document.selection, ())
        return (data, self.errors)

    # Bounds

    def bound(self):
        self.level("Query", self.document.selection, 0, None)
        return (max((level for level, _ in self.pairs), default=0), len(self.pairs))

    def level(self, type_name, selection, level, service):
        for _, _, _, inner, kind, owner in self.groups(type_name, selection):
            if owner is not None:
                here = level if owner == service else level + 1
                self.pairs.add((here, owner))
                for name in self.schema.possible(base_of(kind)):
                    self.level(name, inner, here, owner)

    # Asking: open objects are tuples (thing, selection, owners)

    def row(self, type_name, selection, service):
        rows = []
        for key, name, arguments, inner, kind, owner in self.groups(type_name, selection):
            if owner == service or (owner is None and name != "_type"):
                possible = self.schema.possible(base_of(kind))
                rows.append((key, name, arguments, tuple((one, self.row(one, inner, service)) for one in possible)))
        return tuple(rows)

    def owners(self, type_name, selection):
        return {group[5] for group in self.groups(type_name, selection)} - {None}

    def log(self):
        start = (("Query", None, None), self.document.selection, self.owners("Query", self.document.selection))
        opened = [start]
        log = []
        while any(owners for _, _, owners in opened):
            number = log[-1][0] + 1 if log else 1
            found = []
            for service in sorted(self.services):
                asked = [entry for entry in opened if service in entry[2]]
                if asked:
                    log.append((number, service, self.request(asked, service)))
                    if service not in self.down:
                        for thing, selection, _ in asked:
                            self.look_inside(thing, selection, service, found)
            opened = found
        return log

    def request(self, asked, service):
        parts = []
        for (type_name, key, _), selection, _ in asked:
            fields = self.row(type_name, selection, service)
            if type_name == "Query":
                parts.append(["roots", fields])
                continue
            same = [part for part in parts if part[0] == "keys" and (part[1], part[3]) == (type_name, fields)]
            if not same:
                parts.append(["keys", type_name, (), fields])
                same = parts[-1:]
            if key not in same[0][2]:
                same[0][2] += (key,)
        return tuple(tuple(part) for part in parts)

    def look_inside(self, thing, selection, service, found):
        for _, name, arguments, inner, kind, owner in self.groups(thing[0], selection):
            if owner == service:
                self.look(kind, inner, self.raw(thing, name, arguments, owner), service, found)

    def look(self, kind, selection, value, service, found):
        if kind[0] == "must":
            kind = kind[1]
        if kind[0] == "list":
            for item in value if isinstance(value, list) else ():
                self.look(kind[1], selection, item, service, found)
        elif kind[1] not in ("Int", "Text", "Truth") and isinstance(value, tuple) and value[0] != "fails":
            thing = self.thing(kind[1], value)
            if thing is not None:
                self.look_inside(thing, selection, service, found)
                owners = self.owners(thing[0], selection) - {service}
                if owners:
                    found.append((thing, selection, owners))

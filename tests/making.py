"""Makes services, data, documents and variables from a seeded random source."""

from seamgraph.checking import broken_rules
from seamgraph.errors import InvalidSchema
from seamgraph.parser import parse_document
from seamgraph.schema import Service, compose
from seamgraph.types import SCALARS, base_of

TEXTS = ("a", "b", "")
NUMBERS = (0, 1, 2)
WRONG = (True, False, 1, 2147483648, "a\nb", "x", [], [None], ("object", "O0", {}), ("ref", "E0", 1), ("ref", "E0", True))


class Maker:
    def __init__(self, source, clean):
        self.source = source
        # Clean data are complete and fit the schema.
        self.clean = clean
        self.keys = {f"E{n}": source.choice(("Int!", "Text!")) for n in range(3)}

    def chance(self, share):
        return self.source.random() < share

    # Services

    def kind(self, bases):
        base = text = self.source.choice(bases)
        for _ in range(self.source.choice((0, 0, 0, 1, 1, 2))):
            text = "[" + text + ("!" if self.chance(0.4) else "") + "]"
        # An object that must contain an object of its type could have no end.
        if text == base and base[0] in "OU":
            return text
        return text + ("!" if self.chance(0.3) else "")

    def params(self):
        if self.chance(0.7):
            return ()
        found = []
        for name in self.source.sample(("p", "q"), self.source.choice((1, 1, 2))):
            scalar = self.source.choice(SCALARS)
            default = self.scalar(scalar) if self.chance(0.4) else None
            found.append((name, scalar + ("!" if self.chance(0.3) else ""), default))
        return tuple(found)

    def scalar(self, scalar):
        return self.source.choice({"Int": NUMBERS, "Text": TEXTS, "Truth": (True, False)}[scalar])

    def service(self, at):
        entities = [name for name in self.keys if self.chance(0.7)]
        plain = [f"O{at}{letter}" for letter in "xy" if self.chance(0.5)]
        unions = []
        for letter in "uv":
            members = self.source.sample(entities + plain, min(len(entities + plain), self.source.choice((1, 2, 3))))
            if members and self.chance(0.5):
                unions.append((f"U{at}{letter}", tuple(members)))
        bases = list(SCALARS) + (entities + plain) * 2 + [name for name, _ in unions] * 2
        types = []
        if at == 0 or self.chance(0.5):
            types.append(("Query", None, self.fields(f"r{at}", bases, 4)))
        for name in entities:
            key = ("id", (), self.keys[name])
            types.append((name, "id", (key,) + self.fields(f"f{at}", bases, 3)))
        for name in plain:
            types.append((name, None, self.fields("g", bases, 3)))
        self.source.shuffle(types)
        name = self.source.choice(("s", "T", "a")) + str(at)
        return Service(name, tuple(types), tuple(unions))

    def fields(self, prefix, bases, most):
        many = self.source.randint(1, most)
        return tuple((f"{prefix}{n}", self.params(), self.kind(bases)) for n in range(many))

    def services(self):
        while True:
            found = [self.service(at) for at in range(self.source.choice((1, 2, 3, 3)))]
            try:
                return found, compose(found)
            except InvalidSchema:
                continue

    # Data

    def value(self, schema, kind, depth):
        must = kind[0] == "must"
        if not self.clean and self.chance(0.06):
            return self.source.choice(WRONG)
        if not self.clean and self.chance(0.05):
            return ("fails", self.source.choice(("late", "lost")))
        if self.chance(0.1 if not must else 0.04 if not self.clean else 0):
            return None
        if must:
            kind = kind[1]
        if kind[0] == "list":
            return [self.value(schema, kind[1], depth) for _ in range(self.source.choice((0, 1, 2, 3)) if depth else 0)]
        base = kind[1]
        if base in SCALARS:
            return self.scalar(base)
        if depth == 0 and not must:
            return None
        name = self.source.choice(schema.possible(base))
        if schema.key_names[name] is not None:
            return ("ref", name, self.key(name))
        return ("object", name, self.values_of(schema, name, schema.types[name].values(), max(depth - 1, 0)))

    def key(self, name):
        return self.source.choice(NUMBERS if self.keys[name] == "Int!" else TEXTS)

    def values_of(self, schema, name, fields, depth):
        found = {}
        for field in fields:
            if field.owner is None or (not self.clean and self.chance(0.05)):
                continue
            value = self.value(schema, field.kind, depth)
            if field.params:
                value = self.pairs(schema, field, depth)
            found[field.name] = value
        return found

    def pairs(self, schema, field, depth):
        if not self.clean and self.chance(0.1):
            return None
        rows = []
        for combination in self.combinations(field.params):
            if self.clean or self.chance(0.7):
                rows.append((combination, self.value(schema, field.kind, depth)))
        self.source.shuffle(rows)
        return tuple(rows)

    def combinations(self, params):
        rows = [()]
        for _, kind, _ in params:
            worths = {"Int": NUMBERS, "Text": TEXTS, "Truth": (True, False)}[base_of(kind)]
            rows = [row + (worth,) for row in rows for worth in worths + (None,)]
        return rows

    def data(self, services, schema):
        found = {}
        for service in services:
            roots, records = {}, {}
            for name, _, _ in service.types:
                fields = [field for field in schema.types[name].values() if field.owner == service.name]
                if name == "Query":
                    roots = self.values_of(schema, name, fields, 2)
                elif name in self.keys:
                    for key in NUMBERS if self.keys[name] == "Int!" else TEXTS:
                        if self.clean or self.chance(0.85):
                            records[(name, key)] = self.values_of(schema, name, fields, 2)
            found[service.name] = (roots, records)
        return found

    # Documents

    def document(self, schema):
        """Returns a document that the schema accepts, and its variables."""
        while True:
            self.variables = {}
            self.fragments = []
            text = self.selection(schema, "Query", 5)
            declared = "".join(f"${name}: {kind} {default} " for name, (kind, default) in self.variables.items())
            head = "query" + (f"({declared}) " if declared else " ")
            document = parse_document(head + text + "".join(self.fragments))
            if broken_rules(schema, document) == ():
                return document

    def given(self, document):
        found = {}
        for name, kind, default in document.variables:
            if default is None and kind[0] == "must" or self.chance(0.5):
                value = None if kind[0] != "must" and self.chance(0.2) else self.scalar(base_of(kind))
                found[name] = value
        return found

    def selection(self, schema, base, depth):
        parts = [self.part(schema, base, depth) for _ in range(self.source.randint(1, 4))]
        return "{ " + " ".join(parts) + " } "

    def part(self, schema, base, depth):
        if base in schema.unions or self.chance(0.15):
            if self.chance(0.2):
                return self.source.choice(("_type", "t: _type"))
            names = [name for name in list(schema.types) + list(schema.unions) if self.meet(schema, base, name)]
            inner = self.source.choice(names)
            if depth > 0 and self.chance(0.3) and len(self.fragments) < 10:
                return self.fragment(schema, inner, depth)
            if depth == 0:
                return "_type"
            if inner == base and self.chance(0.3):
                return "..." + self.conditions() + self.selection(schema, inner, depth - 1)
            return f"... on {inner}" + self.conditions() + self.selection(schema, inner, depth - 1)
        fields = list(schema.types[base].values())
        deeper = [field for field in fields if base_of(field.kind) not in SCALARS]
        if deeper and self.chance(0.5):
            fields = deeper
        return self.field(schema, self.source.choice(fields), depth)

    def meet(self, schema, one, other):
        return any(name in schema.possible(other) for name in schema.possible(one))

    def fragment(self, schema, inner, depth):
        name = f"F{len(self.fragments)}"
        self.fragments.append("")
        at = len(self.fragments) - 1
        self.fragments[at] = f"fragment {name} on {inner} " + self.selection(schema, inner, depth - 1)
        return f"...{name}" + self.conditions() + (f" ...{name}" if self.chance(0.3) else "")

    def field(self, schema, field, depth):
        base = base_of(field.kind)
        inner = ""
        if base not in SCALARS:
            if depth == 0:
                return "_type"
            inner = self.selection(schema, base, depth - 1)
        arguments = self.arguments(field)
        key = ""
        if arguments or self.chance(0.1):
            key = f"k{self.source.randint(0, 99)}: "
        return key + field.name + arguments + self.conditions() + inner

    def arguments(self, field):
        found = []
        for name, kind, default in field.params:
            must = kind[0] == "must"
            if must and default is None or self.chance(0.6):
                found.append(f"{name}: {self.argument(base_of(kind), must)}")
        self.source.shuffle(found)
        return "(" + " ".join(found) + ")" if found else ""

    def argument(self, scalar, must):
        if self.chance(0.4):
            return self.variable(scalar, must)
        return self.constant(scalar, must)

    def constant(self, scalar, must):
        if not must and self.chance(0.2):
            return "null"
        value = self.scalar(scalar)
        if scalar == "Truth":
            return "true" if value else "false"
        return str(value) if scalar == "Int" else f'"{value}"'

    def variable(self, scalar, must):
        name = f"v{len(self.variables)}"
        default = "= " + self.constant(scalar, must) if self.chance(0.4) else ""
        self.variables[name] = (scalar + ("!" if must else ""), default)
        return "$" + name

    def conditions(self):
        if self.chance(0.85):
            return " "
        value = self.variable("Truth", True) if self.chance(0.5) else self.source.choice(("true", "false"))
        return f" @{self.source.choice(('if', 'unless'))}({value}) "


def make(source, clean):
    """Returns services, their schema, the data, a document and variables."""
    maker = Maker(source, clean)
    services, schema = maker.services()
    data = maker.data(services, schema)
    document = maker.document(schema)
    return services, schema, data, document, maker.given(document)

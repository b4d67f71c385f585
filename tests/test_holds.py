"""Points 27 to 29 and 1: what holds for everything together.

Many worlds and documents are made from fixed seeds. What the program returns is
compared with what the document says most plainly (plain.py).
"""

import copy
import random
import unittest

from seamgraph.collecting import variables_of
from seamgraph.gateway import Gateway, bound
from seamgraph.store import Store
from seamgraph.whole import execute

from making import make
from plain import Plain


class Case:
    def __init__(self, seed):
        source = random.Random(seed)
        self.clean = seed % 4 == 0
        self.services, self.schema, self.data, self.document, self.given = make(source, self.clean)
        names = [service.name for service in self.services]
        few = source.sample(names, source.randint(1, len(names)))
        self.down = () if self.clean or source.random() < 0.6 else tuple(few)
        self.stores = [Store(service, *self.data[service.name]) for service in self.services]
        self.gateway = Gateway(self.schema, self.stores, self.down)
        variables = variables_of(self.document, self.given)
        self.world = (self.services, self.schema, self.data, self.down, self.document, variables)

    @property
    def plain(self):
        return Plain(*self.world)

    def whole(self):
        return execute(self.schema, self.stores, self.down, self.document, self.given)

    def run(self):
        return self.gateway.run(self.document, self.given)

    def bound(self):
        return bound(self.schema, self.document, self.given)

    def passed(self):
        """Returns everything that is passed to the program."""
        return (
            self.data,
            self.down,
            self.given,
            self.document.variables,
            self.document.selection,
            self.document.fragments,
            [(service.name, service.types, service.unions) for service in self.services],
            {name: list(fields) for name, fields in self.schema.types.items()},
            self.schema.key_names,
            self.schema.unions,
        )


def reasons_in(value):
    """Returns the reasons of all failures in data."""
    if isinstance(value, tuple) and len(value) == 2 and value[0] == "fails":
        return {value[1]}
    if isinstance(value, dict):
        value = list(value.values())
    found = set()
    if isinstance(value, (list, tuple)):
        for item in value:
            found |= reasons_in(item)
    return found


class HoldsTest(unittest.TestCase):
    @classmethod
    def setUpClass(cls):
        cls.cases = [Case(seed) for seed in range(400)]

    def each(self, check):
        for seed, case in enumerate(self.cases):
            with self.subTest(seed=seed):
                check(case)

    def test_the_gateway_responds_like_the_whole(self):
        def check(case):
            due = repr(case.plain.response())
            self.assertEqual(repr(case.whole()), due)
            self.assertEqual(repr(case.run()), due)

        self.each(check)

    def test_rounds_and_requests_stay_in_the_bound(self):
        def check(case):
            self.assertEqual(case.bound(), case.plain.bound())
            case.run()
            log = case.gateway.log
            self.assertEqual(repr(log), repr(case.plain.log()))
            rounds = max([entry[0] for entry in log], default=0)
            self.assertLessEqual(rounds, case.bound()[0])
            self.assertLessEqual(len(log), case.bound()[1])
            found.add(rounds)

        found = set()
        self.each(check)
        self.assertGreater(len(found), 3)

    def test_requests_contain_what_their_service_has(self):
        def check(case):
            case.run()
            stores = {store.service.name: store for store in case.stores}
            for _, name, request in case.gateway.log:
                self.assertEqual(len(stores[name].answer(request)), len(request))

        self.each(check)

    def test_each_error_has_a_cause(self):
        def check(case):
            known = {"null", "unknown", "bad value"} | {f"down {name}" for name in case.down} | reasons_in(case.data)
            _, errors = case.run()
            self.assertLessEqual({reason for _, reason in errors}, known)
            paths = [path for path, _ in errors]
            self.assertEqual(len(set(paths)), len(paths))
            if case.clean:
                self.assertEqual(errors, [])

        self.each(check)

    def test_nothing_that_is_passed_is_changed(self):
        def check(case):
            before = repr(case.passed())
            case.whole()
            case.bound()
            first = repr(case.run())
            log = copy.deepcopy(case.gateway.log)
            self.assertEqual(repr(case.run()), first)
            self.assertEqual(repr(case.gateway.log), repr(log))
            self.assertEqual(repr(case.passed()), before)

        self.each(check)


if __name__ == "__main__":
    unittest.main()

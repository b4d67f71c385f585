"""What the interface of the document lists exists, where and as it is listed."""

import importlib
import inspect
import unittest

from seamgraph.gateway import Gateway
from seamgraph.parser import parse_document

from world import SCHEMA, stores

LISTED = {
    "errors": {"SeamError": None, "InvalidType": None, "InvalidVariables": None, "InvalidRequest": None,
               "InvalidDocument": ["place"], "InvalidSchema": ["rule"]},
    "types": {"parse_type": ["text"], "format_type": ["kind"], "base_of": ["kind"], "has_list": ["kind"],
              "is_name": ["text"], "fits": ["scalar", "value"]},
    "schema": {"Service": ["name", "types", "unions"], "Schema": None, "Field": None, "compose": ["services"]},
    "words": {"split_words": ["text"]},
    "parser": {"Document": ["variables", "selection", "fragments"], "parse_document": ["text"]},
    "checking": {"broken_rules": ["schema", "document"]},
    "collecting": {"variables_of": ["document", "given"], "Group": None,
                   "collect": ["schema", "document", "variables", "type_name", "selection"]},
    "store": {"Store": ["service", "roots", "records"]},
    "whole": {"execute": ["schema", "stores", "down", "document", "given"]},
    "gateway": {"bound": ["schema", "document", "given"], "Gateway": ["schema", "stores", "down"]},
}
METHODS = {
    ("schema", "Schema"): {"possible": ["name"], "field": ["type_name", "name"]},
    ("store", "Store"): {"answer": ["request"]},
    ("gateway", "Gateway"): {"run": ["document", "given"]},
}


class InterfaceTest(unittest.TestCase):
    def test_names_and_arguments(self):
        for file, names in LISTED.items():
            module = importlib.import_module(f"seamgraph.{file}")
            for name, params in names.items():
                found = getattr(module, name)
                self.assertEqual(found.__module__, f"seamgraph.{file}", name)
                if params is not None:
                    self.assertEqual(list(inspect.signature(found).parameters), params, name)

    def test_methods_stand_in_their_class(self):
        for (file, name), methods in METHODS.items():
            found = getattr(importlib.import_module(f"seamgraph.{file}"), name)
            for method, params in methods.items():
                self.assertIn(method, vars(found))
                self.assertEqual(list(inspect.signature(vars(found)[method]).parameters), ["self"] + params)

    def test_attributes(self):
        store = stores()[0]
        self.assertEqual(store.service.name, "users")
        gateway = Gateway(SCHEMA, [store], ())
        self.assertEqual(gateway.log, [])
        gateway.run(parse_document("query { count }"), {})
        self.assertIsInstance(gateway.log, list)


if __name__ == "__main__":
    unittest.main()

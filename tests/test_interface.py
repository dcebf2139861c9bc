import importlib
import inspect
import unittest
from operator import attrgetter

ARGUMENTS = {
    "gates": {
        "is_gate": ["thing"],
        "value": ["gate", "values"],
        "input_table": ["inputs", "j"],
        "put": ["gate", "tables", "inputs"],
        "turned": ["gate"],
        "with_set": ["gate", "j", "w"],
        "in_order": ["gate", "order"],
        "matters": ["gate"],
    },
    "circuits": {
        "is_circuit": ["thing"],
        "wires": ["circuit"],
        "gate_of": ["circuit"],
    },
    "joins": {
        "joined": ["circuit", "parts"],
        "shared": ["circuit"],
        "turned_circuit": ["circuit"],
    },
    "trees": {
        "tree_table": ["tree", "inputs"],
        "tree_size": ["tree"],
        "spread": ["circuit"],
        "tree_circuit": ["tree", "inputs"],
    },
    "relations": {
        "relation": ["width", "rows"],
        "put_rows": ["gate", "rows", "width"],
        "keeps": ["gate", "relation"],
        "broken": ["gate", "relation"],
        "closed": ["relation", "gates"],
    },
    "formulas": {
        "relation_of": ["formula"],
        "both": ["one", "other"],
        "beside": ["one", "other"],
        "picked": ["relation", "columns"],
    },
    "made": {
        "tables_made": ["gates", "inputs"],
        "made": ["gates", "wish"],
    },
    "kinds": {
        "kind": ["name"],
        "kinds": ["gates"],
        "outsider": ["name"],
    },
    "build": {
        "makes_all": ["gates"],
        "build": ["gates", "wish"],
    },
    "prices": {
        "paper": ["gates", "inputs"],
        "holds": ["gates", "inputs", "rows"],
        "least_tree": ["gates", "wish"],
    },
    "keepers": {
        "keepers": ["relations", "inputs"],
        "made_of": ["relations", "wish"],
    },
    "sets": {
        "least_part": ["gates"],
        "same": ["one", "other"],
    },
    "texts": {
        "gate_text": ["gate"],
        "relation_text": ["relation"],
        "circuit_text": ["circuit"],
        "set_text": ["gates"],
        "read_gate": ["text"],
        "read_relation": ["text"],
        "read_circuit": ["text"],
        "read_set": ["text"],
    },
    "desk": {
        "Desk": [],
        "Desk.say": ["self", "row"],
    },
    "errors": {
        "NotAll": ["kind"],
        "NoName": ["name"],
    },
}


class Interface(unittest.TestCase):
    def test_names_and_arguments(self):
        for file, names in ARGUMENTS.items():
            module = importlib.import_module("gatekin." + file)
            for name, arguments in names.items():
                with self.subTest(file=file, name=name):
                    told = inspect.signature(attrgetter(name)(module)).parameters
                    self.assertEqual(list(told), arguments)
                    for parameter in told.values():
                        self.assertIs(parameter.default, inspect.Parameter.empty)


if __name__ == "__main__":
    unittest.main()

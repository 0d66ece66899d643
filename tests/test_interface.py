"""Each name of the interface stands in its file, and each listed method in its class itself."""

import importlib
import inspect
import unittest

CLASSES = {
    "leastguards.plants": {
        "Plant": ["__init__", "__eq__", "start", "steps", "words", "wanted", "barred", "states",
                  "giving_up"],
    },
    "leastguards.views": {
        "View": ["__init__", "__eq__", "__getitem__", "__setitem__", "__contains__", "__len__",
                 "__or__", "__ror__", "__ior__", "__sub__", "__isub__", "words", "sights", "holds",
                 "hold_just", "copy"],
    },
    "leastguards.guards": {
        "Guard": ["__init__", "__eq__", "__call__", "__and__", "__or__", "node_after", "view",
                  "size", "moves", "held", "smallest", "within", "apart"],
    },
    "leastguards.bench": {
        "Bench": ["__init__", "__getitem__", "__setitem__", "__len__", "hold", "free", "follow",
                  "chosen", "keeps", "undo", "trial", "trying", "tried"],
    },
}
PROPERTIES = {
    ("leastguards.plants", "Plant"): ["start", "steps", "words", "wanted", "barred", "states"],
    ("leastguards.views", "View"): ["words", "sights", "holds"],
    ("leastguards.guards", "Guard"): ["view", "size", "moves", "held"],
    ("leastguards.bench", "Bench"): ["chosen"],
}
SETTABLE = ["holds", "chosen"]
PARAMETERS = {
    ("leastguards.plants", "Plant"): "(start, steps, wanted, barred=())",
    ("leastguards.views", "View"): "(sights=None, holds=())",
    ("leastguards.views", "seeing"): "(words, holds=())",
    ("leastguards.runs", "end_of"): "(plant, run)",
    ("leastguards.runs", "is_wanted"): "(plant, run)",
    ("leastguards.runs", "sights_of"): "(plant, view, run)",
    ("leastguards.runs", "alike"): "(plant, view, one, other)",
    ("leastguards.runs", "wanted_ends"): "(plant, view, sights)",
    ("leastguards.guards", "Guard"): "(view, moves, held)",
    ("leastguards.guards", "least_guard"): "(plant, view)",
    ("leastguards.letting", "first_held"): "(plant, guards, run)",
    ("leastguards.letting", "lets"): "(plant, guards, run)",
    ("leastguards.letting", "shortest_let"): "(plant, guards, number)",
    ("leastguards.letting", "let_more"): "(plant, guards, others)",
    ("leastguards.letting", "stuck"): "(plant, guards)",
    ("leastguards.forced", "standings"): "(plant, views)",
    ("leastguards.forced", "forced"): "(plant, views, number)",
    ("leastguards.forced", "is_forced"): "(plant, views, thing)",
    ("leastguards.forced", "keepable"): "(plant, views)",
    ("leastguards.forced", "breach"): "(plant, views)",
    ("leastguards.forced", "is_cover"): "(plant, views, thing)",
    ("leastguards.forced", "exact"): "(plant, views)",
    ("leastguards.forced", "beyond"): "(plant, views)",
    ("leastguards.widen", "spare"): "(plant, view)",
    ("leastguards.widen", "widest"): "(plant, view)",
    ("leastguards.widen", "entry_run"): "(plant, guard, node, word)",
    ("leastguards.choose", "least_sights"): "(plant, holds, among)",
    ("leastguards.choose", "least_holds"): "(plant, sights, among)",
    ("leastguards.choose", "least_given_up"): "(plant, views, among)",
    ("leastguards.choose", "cheapest"): "(plant, see, hold)",
    ("leastguards.choose", "is_against"): "(plant, see, hold, cost, thing)",
    ("leastguards.bench", "Bench"): "(plant)",
}
METHODS = {
    ("leastguards.guards", "Guard"): {
        "__call__": "(self, sights)", "node_after": "(self, sights)", "smallest": "(self)",
        "within": "(self, other)", "apart": "(self, other)",
    },
    ("leastguards.bench", "Bench"): {
        "hold": "(self, word)", "free": "(self, word)", "follow": "(self, view)",
        "keeps": "(self)", "undo": "(self)", "trial": "(self)", "trying": "(self, deed)",
        "tried": "(self, changes)",
    },
}


def named(module, name):
    return getattr(importlib.import_module(module), name)


class InterfaceTest(unittest.TestCase):
    def test_methods_stand_in_their_class(self):
        for module, classes in CLASSES.items():
            for name, methods in classes.items():
                self.assertEqual(named(module, name).__module__, module)
                for method in methods:
                    self.assertIn(method, vars(named(module, name)), name)

    def test_properties(self):
        for (module, name), properties in PROPERTIES.items():
            for told in properties:
                self.assertIsInstance(vars(named(module, name))[told], property, told)

    def test_only_holds_and_chosen_can_be_set(self):
        for (module, name), properties in PROPERTIES.items():
            for told in properties:
                settable = vars(named(module, name))[told].fset is not None
                self.assertEqual(settable, told in SETTABLE, told)

    def test_parameters(self):
        for (module, name), parameters in PARAMETERS.items():
            self.assertEqual(str(inspect.signature(named(module, name))), parameters)

    def test_each_name_is_defined_in_its_file(self):
        for module, name in PARAMETERS:
            self.assertEqual(named(module, name).__module__, module, name)

    def test_parameters_of_methods(self):
        for (module, name), methods in METHODS.items():
            for told, parameters in methods.items():
                self.assertEqual(str(inspect.signature(vars(named(module, name))[told])), parameters)


if __name__ == "__main__":
    unittest.main()

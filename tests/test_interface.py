"""[1], [2]: the names of the interface, where they are defined, and their parameters."""

import importlib
import inspect
import unittest

LANDED = {
    "orders": {
        "check_order": "value",
        "order_of": "n links",
        "covers": "order",
        "below": "order x",
        "above": "order x",
        "is_below": "order x y",
        "minimal": "order",
        "maximal": "order",
        "least": "order",
        "greatest": "order",
        "pieces": "order",
        "is_connected": "order",
    },
    "building": {
        "induced": "order points",
        "opposite": "order",
        "beside": "first second",
        "on_top": "first second",
        "product": "first second",
    },
    "maps": {
        "check_map": "first second row",
        "identity_map": "order",
        "compose": "row after",
        "at_most": "second low high",
        "are_neighbours": "second row other",
        "count_maps": "first second",
        "all_maps": "first second",
    },
    "steps": {
        "apply_steps": "first second row steps",
        "steps_up": "first second low high",
        "steps_down": "first second high low",
        "check_fence": "first second rows",
        "fence_steps": "first second rows",
    },
    "strikes": {
        "strikes_of": "order points",
        "partner": "order points strike",
        "points_left": "order strikes",
        "is_finished": "order strikes",
        "is_core": "order",
    },
    "cores": {
        "core_strikes": "order",
        "core_points": "order",
        "core": "order",
        "strike_map": "order strikes",
        "strike_fence": "order strikes",
        "is_contractible": "order",
    },
    "alike": {
        "renaming_of": "first second",
        "is_renaming": "first second value",
    },
    "quotients": {
        "quotient": "order labels",
        "test_counts": "test first second",
        "find_test": "first second",
    },
    "shapes": {
        "same_shape": "first second",
        "check_shape": "first second answer",
        "shape_maps": "first second answer",
    },
    "firm": {
        "firm": "order part",
        "check_firm": "order part answer",
    },
    "led": {
        "core_map": "first second row",
        "list_piece": "first second row",
        "led": "first second start goal",
        "check_led": "first second start goal answer",
    },
    "chains": {
        "chains": "order",
        "chain_counts": "order",
        "euler": "order",
        "moebius": "order x y",
        "homology": "order",
    },
    "weak": {
        "weak_strikes_of": "order points",
        "weak_left": "order strikes",
        "weak_row": "order",
    },
    "collapses": {
        "collapses": "order strikes",
        "check_collapses": "order points value",
    },
    "fixed": {
        "fixed_points": "order row",
        "lefschetz": "order row",
        "fixed_answer": "order",
        "check_fixed": "order answer",
    },
    "joined": {
        "joined": "first second",
        "check_joined": "first second answer",
    },
    "fibres": {
        "fibre": "first second row q side",
        "adjoint": "first second row",
        "cylinder": "first second row",
        "onto_second": "first second row",
        "onto_first": "first second row",
    },
    "coverings": {
        "check_table": "order sheets table",
        "along": "order sheets table x y",
        "covering": "order sheets table",
        "sheet_map": "order sheets",
        "lift": "base order sheets table row point start",
        "alike_over": "order sheets table other",
        "drop_covering": "order sheets table strike",
        "grow_covering": "order sheets strike table",
    },
    "families": {
        "map_order": "first second",
        "symmetries": "order",
        "closures": "order",
        "interiors": "order",
        "sphere": "k",
        "crown": "k",
        "turns": "k m row",
    },
    "texts": {
        "write_order": "order",
        "read_order": "text",
        "write_row": "row",
        "read_row": "text",
        "write_strikes": "strikes",
        "read_strikes": "text",
    },
}

# The classes, each with its methods; "__init__" tells how an object is made.
CLASSES = {
    ("books", "Book"): {
        "__init__": "self order",
        "put_point": "self under over",
        "drop_point": "self x",
        "put_pair": "self x y",
        "drop_pair": "self x y",
        "put_beside": "self other",
        "put_on_top": "self other",
        "turn": "self",
        "undo": "self",
        "redo": "self",
    },
    ("desk", "Desk"): {
        "__init__": "self text",
        "answer": "self line",
    },
}

# The parameters that are passed by name only, with their defaults.
BY_NAME_ONLY = {
    "fibre": {"side": "below"},
    "lift": {"point": 0, "start": 0},
}


class TestInterface(unittest.TestCase):
    def test_functions_are_defined_in_their_files(self):
        for file_name, functions in LANDED.items():
            module = importlib.import_module("strikecore." + file_name)
            for name in functions:
                with self.subTest(file_name, name=name):
                    function = getattr(module, name)
                    self.assertTrue(inspect.isfunction(function))
                    self.assertEqual(function.__module__, "strikecore." + file_name)
                    self.assertEqual(function.__name__, name)

    def test_parameters_have_the_names_that_are_told(self):
        for file_name, functions in LANDED.items():
            module = importlib.import_module("strikecore." + file_name)
            for name, parameters in functions.items():
                with self.subTest(file_name, name=name):
                    told = inspect.signature(getattr(module, name)).parameters.values()
                    self.assertEqual([parameter.name for parameter in told], parameters.split())
                    defaults = BY_NAME_ONLY.get(name, {})
                    for parameter in told:
                        if parameter.name in defaults:
                            self.assertEqual(parameter.kind, parameter.KEYWORD_ONLY)
                            self.assertEqual(parameter.default, defaults[parameter.name])
                        else:
                            self.assertEqual(parameter.kind, parameter.POSITIONAL_OR_KEYWORD)
                            self.assertIs(parameter.default, parameter.empty)

    def test_classes(self):
        for (file_name, class_name), methods in CLASSES.items():
            module = importlib.import_module("strikecore." + file_name)
            made = getattr(module, class_name)
            self.assertTrue(inspect.isclass(made))
            self.assertEqual(made.__module__, "strikecore." + file_name)
            self.assertIsInstance(vars(made)["order"], property)
            for name, parameters in methods.items():
                with self.subTest(class_name, name=name):
                    method = vars(made)[name]
                    self.assertTrue(inspect.isfunction(method))
                    told = inspect.signature(method).parameters.values()
                    self.assertEqual([parameter.name for parameter in told], parameters.split())
                    for parameter in told:
                        self.assertEqual(parameter.kind, parameter.POSITIONAL_OR_KEYWORD)
                        self.assertIs(parameter.default, parameter.empty)

    def test_each_heading_of_the_interface_has_a_file(self):
        names = set(LANDED) | {file_name for file_name, _ in CLASSES} | {"errors"}
        self.assertEqual(len(names), 23)
        for name in names:
            self.assertIsNotNone(importlib.import_module("strikecore." + name))

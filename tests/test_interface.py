"""The names, the places and the parameters of the interface."""

import importlib
import inspect
import unittest

# Each module with its constants and its functions with their parameters.
INTERFACE = {
    "hindcost.systems.systems": (
        {"MAX_STATES": 10, "MAX_REQUESTS": 8, "MAX_COST": 1000, "MAX_LENGTH": 400},
        {
            "is_system": "value",
            "state_count": "system",
            "request_count": "system",
            "switching_cost": "system, first, second",
            "request_cost": "system, request, state",
            "allowed_states": "system, request",
            "is_sequence": "system, value",
            "switching_from_steps": "size, steps",
        },
    ),
    "hindcost.schedules.schedules": (
        {},
        {
            "is_schedule": "system, sequence, value",
            "schedule_cost": "system, sequence, schedule",
            "optimum": "system, sequence",
            "best_schedule": "system, sequence",
            "best_schedule_count": "system, sequence",
            "prefix_optima": "system, sequence",
        },
    ),
    "hindcost.work.functions": (
        {},
        {
            "is_work": "system, value",
            "first_work": "system",
            "next_work": "system, work, request",
            "work_after": "system, sequence",
            "form_of": "system, work",
        },
    ),
    "hindcost.work.forms": (
        {"MAX_FORMS": 1000},
        {
            "is_form": "system, value",
            "next_form": "system, form, request",
            "reachable_forms": "system",
            "sequence_to_form": "system, form",
        },
    ),
    "hindcost.policies.policies": (
        {"MAX_LOOKAHEAD": 2, "MAX_MEMORIES": 1000, "MAX_MOVES": 20000},
        {
            "windows": "system, lookahead",
            "is_policy": "system, value",
            "next_memory": "system, policy, memory, window",
        },
    ),
    "hindcost.policies.runs": (
        {},
        {
            "run_memories": "system, policy, sequence",
            "run_schedule": "system, policy, sequence",
            "run_cost": "system, policy, sequence",
        },
    ),
    "hindcost.policies.reduced": (
        {},
        {
            "reduced_policy": "system, policy",
            "different_run": "system, first, second",
        },
    ),
    "hindcost.ratios.positions": (
        {"MAX_POSITIONS": 1000},
        {
            "first_positions": "system, policy, *, offline=None, form=None",
            "is_position": "system, policy, value, *, offline=None",
            "arrive": "system, policy, position, request, *, offline=None",
            "finish": "system, policy, position, *, offline=None",
            "position_after": "system, policy, sequence, *, offline=None, form=None",
            "reachable_positions": "system, policy, *, offline=None, form=None",
        },
    ),
    "hindcost.ratios.fractions": (
        {"INFINITE": (1, 0)},
        {
            "is_ratio": "value",
            "make_fraction": "numerator, denominator",
            "compare_ratios": "first, second",
        },
    ),
    "hindcost.ratios.ratios": (
        {},
        {
            "ratio_of": "system, policy, *, offline=None, form=None",
            "ratio_certificate": "system, policy, *, offline=None, form=None",
        },
    ),
    "hindcost.ratios.certificates": (
        {},
        {
            "is_potential": "system, policy, ratio, value, *, offline=None, form=None",
            "is_trap": "system, policy, ratio, value, *, offline=None, form=None",
            "is_ratio_certificate": "system, policy, value, *, offline=None, form=None",
        },
    ),
    "hindcost.ratios.surcharges": (
        {},
        {
            "surplus_of": "system, policy, ratio, sequence, *, offline=None, form=None",
            "surcharge_of": "system, policy, ratio, *, offline=None, form=None",
            "surcharge_certificate": "system, policy, ratio, *, offline=None, form=None",
            "is_surcharge_certificate": "system, policy, ratio, value, *, offline=None, form=None",
        },
    ),
    "hindcost.comparisons.comparisons": (
        {"MAX_PAIRS": 1000},
        {
            "reachable_pairs": "system, first, second",
            "excess_of": "system, first, second",
            "excess_certificate": "system, first, second",
            "factor_of": "system, first, second",
            "factor_certificate": "system, first, second",
            "is_excess_certificate": "system, first, second, value",
            "is_factor_certificate": "system, first, second, value",
        },
    ),
    "hindcost.games.games": (
        {"MAX_GAME": 300},
        {
            "game_positions": "system, *, offline=None, lookahead=0",
            "is_game_position": "system, value, *, offline=None, lookahead=0",
            "game_moves": "system, position, request, *, offline=None, lookahead=0",
        },
    ),
    "hindcost.games.solver": (
        {},
        {
            "value_of": "system, *, offline=None, lookahead=0",
            "solve_game": "system, *, offline=None, lookahead=0",
        },
    ),
    "hindcost.games.certificates": (
        {},
        {
            "is_best_policy": "system, ratio, value, *, offline=None, lookahead=0",
            "is_adversary_table": "system, ratio, value, *, offline=None, lookahead=0",
            "is_game_solution": "system, value, *, offline=None, lookahead=0",
        },
    ),
    "hindcost.instances.caches": (
        {"MAX_PAGES": 5},
        {
            "cache_states": "pages, capacity",
            "cache_system": "pages, capacity, *, weights=None",
            "cache_policy": "pages, capacity, word, *, lookahead=0",
        },
    ),
    "hindcost.instances.lists": (
        {},
        {
            "list_states": "items",
            "list_system": "items, *, swap=1",
            "list_policy": "items, word",
        },
    ),
    "hindcost.instances.servers": (
        {},
        {
            "server_states": "last, servers",
            "server_system": "last, servers",
            "server_policy": "last, servers, word",
        },
    ),
    "hindcost.instances.devices": (
        {},
        {
            "device_system": "powers, wakes, *, drop=1",
            "device_policy": "thresholds",
        },
    ),
    "hindcost.instances.migration": (
        {},
        {
            "migration_system": "distances, size",
            "migration_policy": "nodes, patience",
        },
    ),
    "hindcost.operations.operations": (
        {},
        {
            "scaled": "system, factor",
            "without_request": "system, request",
            "with_request": "system, costs",
            "with_start": "system, state",
            "restricted": "system, states",
            "product": "first, second",
            "side_by_side": "first_system, first_policy, second_system, second_policy",
        },
    ),
    "hindcost.service.service": ({"MAX_ARRIVALS": 400}, {}),
    "hindcost.text.formats": (
        {},
        {
            "format_numbers": "numbers",
            "parse_numbers": "text",
            "format_system": "system",
            "parse_system": "text",
            "format_policy": "system, policy",
            "parse_policy": "system, text",
            "format_ratio": "ratio",
            "parse_ratio": "text",
        },
    ),
}

# Each class with its parameters and its methods; each method stands in the class itself.
CLASSES = {
    ("hindcost.service.service", "Service"): (
        "system, policy, *, offline=None",
        {
            "__len__": "self",
            "__str__": "self",
            "__eq__": "self, other",
            "arrive": "self, request",
            "finish": "self",
            "replace": "self, policy",
            "begin": "self, system, policy, *, offline=None",
            "undo": "self, *, count=1",
            "cost": "self",
            "optimum": "self",
            "current_ratio": "self",
            "guarantee": "self",
            "slack": "self",
            "schedule": "self",
            "best_schedule": "self",
            "pending": "self",
            "memory": "self",
            "current_state": "self",
            "log": "self",
        },
    ),
    ("hindcost.text.shell", "Shell"): (
        "",
        {
            "__len__": "self",
            "run": "self, line",
            "run_all": "self, lines",
            "log": "self",
        },
    ),
}


class TestInterface(unittest.TestCase):
    def test_constants(self):
        for path, (constants, _) in INTERFACE.items():
            module = importlib.import_module(path)
            for name, value in constants.items():
                with self.subTest(module=path, name=name):
                    self.assertEqual(getattr(module, name), value)
                    self.assertIs(type(getattr(module, name)), type(value))

    def test_functions_stand_in_their_modules(self):
        for path, (_, functions) in INTERFACE.items():
            module = importlib.import_module(path)
            for name in functions:
                with self.subTest(module=path, name=name):
                    self.assertTrue(inspect.isfunction(getattr(module, name)))
                    self.assertEqual(getattr(module, name).__module__, path)

    def test_parameters(self):
        for path, (_, functions) in INTERFACE.items():
            module = importlib.import_module(path)
            for name, parameters in functions.items():
                with self.subTest(module=path, name=name):
                    self.assertEqual(str(inspect.signature(getattr(module, name))), f"({parameters})")

    def test_classes(self):
        for (path, name), (parameters, methods) in CLASSES.items():
            found = getattr(importlib.import_module(path), name)
            self.assertTrue(inspect.isclass(found))
            self.assertEqual((found.__module__, found.__bases__), (path, (object,)))
            self.assertEqual(str(inspect.signature(found)), f"({parameters})")
            for method, expected in methods.items():
                with self.subTest(name=name, method=method):
                    self.assertEqual(str(inspect.signature(vars(found)[method])), f"({expected})")
            self.assertEqual(
                {method for method in vars(found) if not method.startswith("_")},
                {method for method in methods if not method.startswith("_")},
            )


if __name__ == "__main__":
    unittest.main()

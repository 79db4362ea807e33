"""[0.3] to [0.5], [0.11] for the functions that make systems, policies and texts: errors in order, equal results."""

import copy
import inspect
import itertools
import unittest

from hindcost.errors import (
    InvalidInstance, InvalidNumber, InvalidOperation, InvalidPolicy, InvalidSystem, ParseError, UnknownRequest,
    UnknownState,
)
from hindcost.instances import caches, devices, lists, migration, servers
from hindcost.instances.caches import cache_system
from hindcost.operations import operations
from hindcost.text import formats
from tests.helpers import A, MOVE, ODD, STAY, T, assert_error

# The error of each parameter, with the attribute that keeps the value.
ERRORS = {
    "pages": (InvalidNumber, "value"),
    "capacity": (InvalidNumber, "value"),
    "weights": (InvalidInstance, None),
    "word": (InvalidInstance, None),
    "lookahead": (InvalidNumber, "value"),
    "items": (InvalidNumber, "value"),
    "swap": (InvalidNumber, "value"),
    "last": (InvalidNumber, "value"),
    "servers": (InvalidNumber, "value"),
    "powers": (InvalidInstance, None),
    "wakes": (InvalidInstance, None),
    "drop": (InvalidNumber, "value"),
    "thresholds": (InvalidInstance, None),
    "distances": (InvalidInstance, None),
    "size": (InvalidNumber, "value"),
    "nodes": (InvalidNumber, "value"),
    "patience": (InvalidNumber, "value"),
    "system": (InvalidSystem, None),
    "factor": (InvalidNumber, "value"),
    "request": (UnknownRequest, "request"),
    "costs": (InvalidOperation, None),
    "state": (UnknownState, "state"),
    "states": (InvalidOperation, None),
    "first": (InvalidSystem, None),
    "second": (InvalidSystem, None),
    "first_system": (InvalidSystem, None),
    "first_policy": (InvalidPolicy, None),
    "second_system": (InvalidSystem, None),
    "second_policy": (InvalidPolicy, None),
    "policy": (InvalidPolicy, None),
    "numbers": (InvalidOperation, None),
    "text": (ParseError, None),
    "ratio": (InvalidNumber, "value"),
}

# Each function with valid arguments in the order of the checks.
CALLS = (
    (caches.cache_states, {"pages": 4, "capacity": 2}),
    (caches.cache_system, {"pages": 3, "capacity": 2, "weights": (1, 100, 7)}),
    (caches.cache_policy, {"pages": 3, "capacity": 2, "word": "farthest", "lookahead": 1}),
    (lists.list_states, {"items": 3}),
    (lists.list_system, {"items": 3, "swap": 4}),
    (lists.list_policy, {"items": 3, "word": "twice"}),
    (servers.server_states, {"last": 2, "servers": 2}),
    (servers.server_system, {"last": 2, "servers": 2}),
    (servers.server_policy, {"last": 2, "servers": 2, "word": "double"}),
    (devices.device_system, {"powers": (9, 4, 1), "wakes": (3, 5), "drop": 2}),
    (devices.device_policy, {"thresholds": (2, 7)}),
    (migration.migration_system, {"distances": ((0, 3), (2, 0)), "size": 7}),
    (migration.migration_policy, {"nodes": 3, "patience": 4}),
    (operations.scaled, {"system": A, "factor": 3}),
    (operations.without_request, {"system": A, "request": 1}),
    (operations.with_request, {"system": A, "costs": (3, None)}),
    (operations.with_start, {"system": A, "state": 1}),
    (operations.restricted, {"system": cache_system(3, 2), "states": (0, 2)}),
    (operations.product, {"first": A, "second": T}),
    (
        operations.side_by_side,
        {"first_system": A, "first_policy": MOVE, "second_system": T, "second_policy": STAY},
    ),
    (formats.format_numbers, {"numbers": (0, 12, 7)}),
    (formats.parse_numbers, {"text": "0 12 7"}),
    (formats.format_system, {"system": A}),
    (formats.parse_system, {"text": formats.format_system(A)}),
    (formats.format_policy, {"system": A, "policy": MOVE}),
    (formats.parse_policy, {"system": A, "text": formats.format_policy(A, MOVE)}),
    (formats.format_ratio, {"ratio": (5, 2)}),
    (formats.parse_ratio, {"text": "5/2"}),
)

# Odd values that are right for these parameters.
RIGHT = {"weights": (None,), "numbers": ((), (10**50 - 1,)), "text": ("0",)}


def call(function, given):
    """The function with these arguments, those after the `*` by keyword."""
    parameters = inspect.signature(function).parameters
    by_keyword = {name for name in given if parameters[name].kind is inspect.Parameter.KEYWORD_ONLY}
    by_position = [given[name] for name in given if name not in by_keyword]
    return function(*by_position, **{name: given[name] for name in given if name in by_keyword})


def same(first, second):
    return type(first) is type(second) and first == second


def invalid_values(name, valid):
    """Odd values for the parameter, also such that are like the valid one."""
    values = [odd for odd in ODD if not any(same(odd, right) for right in RIGHT.get(name, ()))]
    if isinstance(valid, tuple):
        values += [list(valid), valid + (-1,), valid[:-1] + (True,), valid[:-1] + ([],), (valid,)]
        if name != "costs":
            values.append(valid[:-1] + (None,))
    elif isinstance(valid, str):
        values += [valid + " ", " " + valid, (valid,), [valid], {valid: 1}, 0, 1]
    else:
        values += [(valid,), [valid], str(valid), {valid: valid}, 0 if valid > 1 else -1, valid + 1000]
    return values


class TestErrors(unittest.TestCase):
    def check(self, function, valid, replaced):
        given = {**valid, **replaced}
        first = next(name for name in valid if name in replaced)
        error, attribute = ERRORS[first]
        with self.subTest(function=function.__name__, replaced=replaced):
            kept = None if attribute is None else (attribute, replaced[first])
            before = copy.deepcopy(given)
            assert_error(self, error, kept, call, function, given)
            self.assertEqual(given, before)

    def test_the_table_lists_all_parameters(self):
        for function, valid in CALLS:
            self.assertEqual(list(inspect.signature(function).parameters), list(valid))

    def test_each_invalid_argument_alone(self):
        for function, valid in CALLS:
            for name in valid:
                for value in invalid_values(name, valid[name]):
                    self.check(function, valid, {name: value})

    def test_first_of_several_invalid_arguments(self):
        for function, valid in CALLS:
            for count in range(2, len(valid) + 1):
                for names in itertools.combinations(valid, count):
                    for odd in ([0], "?", 10**49, -7, True, {}, (None,), (0, -1)):
                        self.check(function, valid, dict.fromkeys(names, odd))

    def test_all_arguments_invalid_with_different_values(self):
        for function, valid in CALLS:
            wrong = dict(zip(valid, ([], -1, "x", (True,))))
            while wrong:
                self.check(function, valid, wrong)
                del wrong[next(iter(wrong))]


class TestCalls(unittest.TestCase):
    def test_equal_calls_return_equal_results(self):
        for function, valid in CALLS:
            with self.subTest(function=function.__name__):
                given = copy.deepcopy(valid)
                first = call(function, given)
                self.assertEqual(given, valid)
                self.assertEqual(call(function, given), first)
                self.assertEqual(call(function, copy.deepcopy(valid)), first)
                self.assert_plain(first)

    def assert_plain(self, value):
        if type(value) is tuple:
            for part in value:
                self.assert_plain(part)
        else:
            self.assertIn(type(value), (int, str, type(None)))


if __name__ == "__main__":
    unittest.main()

"""[0.3] to [0.5], [0.11] for the functions that make systems and policies: their errors in order, equal results."""

import copy
import inspect
import itertools
import unittest

from hindcost.errors import InvalidInstance, InvalidNumber
from hindcost.instances import caches, devices, lists, servers
from tests.helpers import ODD, assert_error

# The error of each parameter, with the attribute that keeps the value.
ERRORS = {
    "pages": (InvalidNumber, "value"),
    "capacity": (InvalidNumber, "value"),
    "weights": (InvalidInstance, None),
    "word": (InvalidInstance, None),
    "lookahead": (InvalidNumber, "value"),
    "items": (InvalidNumber, "value"),
    "swap": (InvalidNumber, "value"),
    "last": (InvalidNumber, "value"),
    "servers": (InvalidNumber, "value"),
    "powers": (InvalidInstance, None),
    "wakes": (InvalidInstance, None),
    "drop": (InvalidNumber, "value"),
    "thresholds": (InvalidInstance, None),
}

# Each function with valid arguments in the order of the checks.
CALLS = (
    (caches.cache_states, {"pages": 4, "capacity": 2}),
    (caches.cache_system, {"pages": 3, "capacity": 2, "weights": (1, 100, 7)}),
    (caches.cache_policy, {"pages": 3, "capacity": 2, "word": "farthest", "lookahead": 1}),
    (lists.list_states, {"items": 3}),
    (lists.list_system, {"items": 3, "swap": 4}),
    (lists.list_policy, {"items": 3, "word": "twice"}),
    (servers.server_states, {"last": 2, "servers": 2}),
    (servers.server_system, {"last": 2, "servers": 2}),
    (servers.server_policy, {"last": 2, "servers": 2, "word": "double"}),
    (devices.device_system, {"powers": (9, 4, 1), "wakes": (3, 5), "drop": 2}),
    (devices.device_policy, {"thresholds": (2, 7)}),
)


def call(function, given):
    """The function with these arguments, those after the `*` by keyword."""
    parameters = inspect.signature(function).parameters
    by_keyword = {name for name in given if parameters[name].kind is inspect.Parameter.KEYWORD_ONLY}
    by_position = [given[name] for name in given if name not in by_keyword]
    return function(*by_position, **{name: given[name] for name in given if name in by_keyword})


def invalid_values(name, valid):
    """Odd values for the parameter, also such that are like the valid one."""
    values = [odd for odd in ODD if not (name == "weights" and odd is None)]
    if isinstance(valid, tuple):
        values += [list(valid), valid + (-1,), valid[:-1] + (None,), valid[:-1] + (True,), valid[:-1] + ([],), (valid,)]
    elif isinstance(valid, str):
        values += [valid + " ", valid.upper(), (valid,), [valid], {valid: 1}, 0, 1]
    else:
        values += [(valid,), [valid], str(valid), {valid: valid}, 0 if valid > 1 else -1, valid + 1000]
    return values


class TestErrors(unittest.TestCase):
    def check(self, function, valid, replaced):
        given = {**valid, **replaced}
        first = next(name for name in valid if name in replaced)
        error, attribute = ERRORS[first]
        with self.subTest(function=function.__name__, replaced=replaced):
            kept = None if attribute is None else (attribute, replaced[first])
            before = copy.deepcopy(given)
            assert_error(self, error, kept, call, function, given)
            self.assertEqual(given, before)

    def test_the_table_lists_all_parameters(self):
        for function, valid in CALLS:
            self.assertEqual(list(inspect.signature(function).parameters), list(valid))

    def test_each_invalid_argument_alone(self):
        for function, valid in CALLS:
            for name in valid:
                for value in invalid_values(name, valid[name]):
                    self.check(function, valid, {name: value})

    def test_first_of_several_invalid_arguments(self):
        for function, valid in CALLS:
            for count in range(2, len(valid) + 1):
                for names in itertools.combinations(valid, count):
                    for odd in ([0], "0", 10**49, -7, True, {}, (None,), ()):
                        self.check(function, valid, dict.fromkeys(names, odd))

    def test_all_arguments_invalid_with_different_values(self):
        for function, valid in CALLS:
            wrong = dict(zip(valid, ([], -1, "x", (True,))))
            while wrong:
                self.check(function, valid, wrong)
                del wrong[next(iter(wrong))]


class TestCalls(unittest.TestCase):
    def test_equal_calls_return_equal_results(self):
        for function, valid in CALLS:
            with self.subTest(function=function.__name__):
                given = copy.deepcopy(valid)
                first = call(function, given)
                self.assertEqual(given, valid)
                self.assertEqual(call(function, given), first)
                self.assertEqual(call(function, copy.deepcopy(valid)), first)
                self.assert_plain(first)

    def assert_plain(self, value):
        if type(value) is tuple:
            for part in value:
                self.assert_plain(part)
        else:
            self.assertIn(type(value), (int, type(None)))


if __name__ == "__main__":
    unittest.main()

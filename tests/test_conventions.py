"""[0.3] to [0.6] and [0.11] for each function: its errors, their order and values, and equal results of equal calls."""

import copy
import itertools
import unittest

from hindcost.comparisons import comparisons
from hindcost.errors import (
    InvalidNumber, InvalidPolicy, InvalidSchedule, InvalidSequence, InvalidSteps, InvalidSystem, InvalidWork,
    UnknownRequest, UnknownState,
)
from hindcost.policies import policies, reduced, runs
from hindcost.ratios import fractions
from hindcost.schedules import schedules
from hindcost.systems import systems
from hindcost.work import forms, functions
from tests.helpers import A, MOVE, ODD, STAY, assert_error

# The error of each parameter, with the attribute that keeps the value; None where no error is named.
ERRORS = {
    "system": (InvalidSystem, None),
    "first state": (UnknownState, "state"),
    "second state": (UnknownState, "state"),
    "state": (UnknownState, "state"),
    "request": (UnknownRequest, "request"),
    "sequence": (InvalidSequence, None),
    "schedule": (InvalidSchedule, None),
    "work": (InvalidWork, None),
    "form": (InvalidWork, None),
    "lookahead": (InvalidNumber, "value"),
    "policy": (InvalidPolicy, None),
    "second policy": (InvalidPolicy, None),
    "memory": (InvalidNumber, "value"),
    "window": (InvalidSequence, None),
    "ratio": (InvalidNumber, "value"),
    "second ratio": (InvalidNumber, "value"),
    "size": (InvalidNumber, "value"),
    "steps": (InvalidSteps, None),
    "value": None,
}

# Each function with its parameters in their order and a valid call.
CALLS = (
    (systems.is_system, ("value",), (A,)),
    (systems.state_count, ("system",), (A,)),
    (systems.request_count, ("system",), (A,)),
    (systems.switching_cost, ("system", "first state", "second state"), (A, 0, 1)),
    (systems.request_cost, ("system", "request", "state"), (A, 1, 0)),
    (systems.allowed_states, ("system", "request"), (A, 1)),
    (systems.is_sequence, ("system", "value"), (A, (0, 1))),
    (systems.switching_from_steps, ("size", "steps"), (2, ((0, 1, 3), (1, 0, 4)))),
    (schedules.is_schedule, ("system", "sequence", "value"), (A, (0, 1), (1, 1))),
    (schedules.schedule_cost, ("system", "sequence", "schedule"), (A, (0, 1), (1, 1))),
    (schedules.optimum, ("system", "sequence"), (A, (0, 1))),
    (schedules.best_schedule, ("system", "sequence"), (A, (0, 1))),
    (schedules.best_schedule_count, ("system", "sequence"), (A, (0, 1))),
    (schedules.prefix_optima, ("system", "sequence"), (A, (0, 1))),
    (functions.is_work, ("system", "value"), (A, (0, 1))),
    (functions.first_work, ("system",), (A,)),
    (functions.next_work, ("system", "work", "request"), (A, (0, 1), 1)),
    (functions.work_after, ("system", "sequence"), (A, (0, 1))),
    (functions.form_of, ("system", "work"), (A, (2, 1))),
    (forms.is_form, ("system", "value"), (A, (0, 1))),
    (forms.next_form, ("system", "form", "request"), (A, (0, 1), 1)),
    (forms.reachable_forms, ("system",), (A,)),
    (forms.sequence_to_form, ("system", "form"), (A, (1, 0))),
    (policies.windows, ("system", "lookahead"), (A, 1)),
    (policies.is_policy, ("system", "value"), (A, MOVE)),
    (policies.next_memory, ("system", "policy", "memory", "window"), (A, MOVE, 0, (1,))),
    (runs.run_memories, ("system", "policy", "sequence"), (A, MOVE, (0, 1))),
    (runs.run_schedule, ("system", "policy", "sequence"), (A, MOVE, (0, 1))),
    (runs.run_cost, ("system", "policy", "sequence"), (A, MOVE, (0, 1))),
    (reduced.reduced_policy, ("system", "policy"), (A, MOVE)),
    (reduced.different_run, ("system", "policy", "second policy"), (A, MOVE, STAY)),
    (fractions.is_ratio, ("value",), ((3, 2),)),
    (fractions.compare_ratios, ("ratio", "second ratio"), ((3, 2), (1, 0))),
    (comparisons.reachable_pairs, ("system", "policy", "second policy"), (A, MOVE, STAY)),
    (comparisons.excess_of, ("system", "policy", "second policy"), (A, MOVE, STAY)),
    (comparisons.excess_certificate, ("system", "policy", "second policy"), (A, STAY, MOVE)),
    (comparisons.factor_of, ("system", "policy", "second policy"), (A, MOVE, STAY)),
    (comparisons.factor_certificate, ("system", "policy", "second policy"), (A, MOVE, STAY)),
    (
        comparisons.is_excess_certificate, ("system", "policy", "second policy", "value"),
        (A, STAY, MOVE, (None, ((1,), (1,)), None)),
    ),
    (
        comparisons.is_factor_certificate, ("system", "policy", "second policy", "value"),
        (A, MOVE, STAY, ((1, 1), (0, 1), ((1,), (0, 1)))),
    ),
)


def invalid_values(parameter, valid):
    """Odd values for the parameter, also such that are like the valid one; the empty tuple is a sequence."""
    values = [odd for odd in ODD if parameter != "sequence" or not (isinstance(odd, tuple) and odd == ())]
    if isinstance(valid, tuple):
        values += [list(valid), valid + (-1,), valid[:-1] + (None,), valid[:-1] + (True,)]
    return values


class TestErrors(unittest.TestCase):
    def test_each_invalid_argument_alone(self):
        for function, parameters, valid in CALLS:
            for at, parameter in enumerate(parameters):
                if ERRORS[parameter] is None:
                    continue
                error, attribute = ERRORS[parameter]
                for value in invalid_values(parameter, valid[at]):
                    with self.subTest(function=function.__name__, parameter=parameter, value=value):
                        kept = None if attribute is None else (attribute, value)
                        assert_error(self, error, kept, function, *valid[:at], value, *valid[at + 1:])

    def test_first_of_several_invalid_arguments(self):
        for function, parameters, valid in CALLS:
            checked = [at for at, parameter in enumerate(parameters) if ERRORS[parameter] is not None]
            for count in range(1, len(checked) + 1):
                for places in itertools.combinations(checked, count):
                    for odd in (None, [0], "0", 10**49, -7, True):
                        arguments = list(valid)
                        for at in places:
                            arguments[at] = odd
                        with self.subTest(function=function.__name__, arguments=arguments):
                            error, attribute = ERRORS[parameters[places[0]]]
                            kept = None if attribute is None else (attribute, odd)
                            assert_error(self, error, kept, function, *arguments)

    def test_all_arguments_invalid_with_different_values(self):
        for function, parameters, _ in CALLS:
            wrong = [([], -1, None, "x")[at] for at in range(len(parameters))]
            if ERRORS[parameters[0]] is not None:
                error, attribute = ERRORS[parameters[0]]
                kept = None if attribute is None else (attribute, wrong[0])
                assert_error(self, error, kept, function, *wrong)

    def test_functions_that_ask_accept_any_value(self):
        for function, parameters, valid in CALLS:
            if parameters[-1] == "value":
                self.assertTrue(function.__name__.startswith("is_"))
                self.assertIs(function(*valid), True)
                for value in invalid_values("value", valid[-1]):
                    with self.subTest(function=function.__name__, value=value):
                        before = copy.deepcopy(value)
                        self.assertIn(function(*valid[:-1], value), (True, False))
                        self.assertIs(type(function(*valid[:-1], value)), bool)
                        self.assertEqual(value, before)


class TestCalls(unittest.TestCase):
    def test_equal_calls_return_equal_results(self):
        for function, _, valid in CALLS:
            with self.subTest(function=function.__name__):
                arguments = copy.deepcopy(valid)
                first = function(*arguments)
                self.assertEqual(arguments, valid)
                function(*copy.deepcopy(valid))
                self.assertEqual(function(*arguments), first)
                self.assertEqual(arguments, valid)

    def test_results_are_of_the_plain_kinds(self):
        for function, _, valid in CALLS:
            with self.subTest(function=function.__name__):
                self.assert_plain(function(*valid))

    def assert_plain(self, value):
        if type(value) is tuple:
            for part in value:
                self.assert_plain(part)
        else:
            self.assertIn(type(value), (int, bool, type(None)))


if __name__ == "__main__":
    unittest.main()

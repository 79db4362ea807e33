"""[0.3] to [0.5], [0.11]: the functions with keyword parameters and those beside them; errors, order, equal results."""

import copy
import itertools
import unittest

from hindcost.errors import (
    InvalidNumber, InvalidOffline, InvalidPolicy, InvalidPosition, InvalidSequence, InvalidSystem, InvalidWork,
    UnknownRequest,
)
from hindcost.games import certificates as answers
from hindcost.games import games, solver
from hindcost.ratios import certificates, positions, ratios, surcharges
from tests.helpers import A, MOVE, ODD, T, assert_error

# The error of each parameter, with the attribute that keeps the value.
ERRORS = {
    "system": (InvalidSystem, None),
    "offline": (InvalidOffline, None),
    "form": (InvalidWork, None),
    "policy": (InvalidPolicy, None),
    "position": (InvalidPosition, None),
    "request": (UnknownRequest, "request"),
    "sequence": (InvalidSequence, None),
    "ratio": (InvalidNumber, "value"),
    "lookahead": (InvalidNumber, "value"),
}
VALID = {
    "system": A, "offline": T, "form": (0, 2), "policy": MOVE, "position": (0, (0, 2), ()), "request": 1,
    "sequence": (1, 0), "ratio": (2, 1), "lookahead": 0,
}

# Each function with its parameters by position, those by keyword, and the parameters in the order of the checks.
CALLS = (
    (positions.first_positions, "system policy", "offline form", "system offline form policy"),
    (positions.is_position, "system policy value", "offline", "system offline policy"),
    (positions.arrive, "system policy position request", "offline", "system offline policy position request"),
    (positions.finish, "system policy position", "offline", "system offline policy position"),
    (positions.position_after, "system policy sequence", "offline form", "system offline form policy sequence"),
    (positions.reachable_positions, "system policy", "offline form", "system offline form policy"),
    (ratios.ratio_of, "system policy", "offline form", "system offline form policy"),
    (ratios.ratio_certificate, "system policy", "offline form", "system offline form policy"),
    (certificates.is_potential, "system policy ratio value", "offline form", "system offline form policy ratio"),
    (certificates.is_trap, "system policy ratio value", "offline form", "system offline form policy ratio"),
    (certificates.is_ratio_certificate, "system policy value", "offline form", "system offline form policy"),
    (
        surcharges.surplus_of, "system policy ratio sequence", "offline form",
        "system offline form policy ratio sequence",
    ),
    (surcharges.surcharge_of, "system policy ratio", "offline form", "system offline form policy ratio"),
    (surcharges.surcharge_certificate, "system policy ratio", "offline form", "system offline form policy ratio"),
    (
        surcharges.is_surcharge_certificate, "system policy ratio value", "offline form",
        "system offline form policy ratio",
    ),
    (games.game_positions, "system", "offline lookahead", "system offline lookahead"),
    (games.is_game_position, "system value", "offline lookahead", "system offline lookahead"),
    (
        games.game_moves, "system position request", "offline lookahead",
        "system offline lookahead position request",
    ),
    (solver.value_of, "system", "offline lookahead", "system offline lookahead"),
    (solver.solve_game, "system", "offline lookahead", "system offline lookahead"),
    (answers.is_best_policy, "system ratio value", "offline lookahead", "system offline lookahead ratio"),
    (answers.is_adversary_table, "system ratio value", "offline lookahead", "system offline lookahead ratio"),
    (answers.is_game_solution, "system value", "offline lookahead", "system offline lookahead"),
)

# An adversary table for the value (2, 1) of the system A beside the offline system T.
TABLE = (
    ((0, (0, 0), ()), 1, 0, 0), ((0, (0, 1), ()), 1, -1, 0), ((0, (0, 2), ()), 1, -1, 0), ((0, (1, 0), ()), 1, 0, 0),
    ((0, (2, 0), ()), 1, 0, 0), ((1, (0, 0), ()), 0, 0, 0), ((1, (0, 1), ()), 0, 0, 0), ((1, (0, 2), ()), 0, 0, 0),
    ((1, (1, 0), ()), 0, -1, 0), ((1, (2, 0), ()), 0, -1, 0),
)
BEST = (MOVE, (1, 0, 0, 1, 1, 1, 0, 0))

# For the functions that ask: a value for which they return True, with the other arguments of VALID.
ACCEPTED = {
    "is_position": (1, (2, 0), ()),
    "is_potential": (1, 0, 0, 1, 1, 1, 0, 0),
    "is_trap": ((1, 1), (0, 1)),
    "is_ratio_certificate": ((2, 1), (1, 0, 0, 1, 1, 1, 0, 0), ((1, 1), (0, 1))),
    "is_surcharge_certificate": ((0, 1), (), (1, 0, 0, 1, 1, 1, 0, 0)),
    "is_game_position": (1, (2, 0), ()),
    "is_best_policy": BEST,
    "is_adversary_table": TABLE,
    "is_game_solution": ((2, 1), BEST, TABLE),
}


def odd_values(parameter, valid):
    """Invalid values for the parameter, also such that are like the valid one."""
    values = [odd for odd in ODD if not (parameter == "sequence" and odd == () and isinstance(odd, tuple))]
    if parameter in ("offline", "form"):
        values = [odd for odd in values if odd is not None]
    if isinstance(valid, tuple):
        values += [list(valid), valid + (-1,), valid[:-1] + (None,), valid[:-1] + (True,), valid[:-1] + ([],)]
    return values + [3] * (parameter == "lookahead")


def arguments_of(call, replaced):
    """The arguments by position and those by keyword, with some of them replaced."""
    function, by_position, by_keyword, _ = call
    given = {**VALID, "value": ACCEPTED.get(function.__name__), **replaced}
    return [given[name] for name in by_position.split()], {name: given[name] for name in by_keyword.split()}


class TestErrors(unittest.TestCase):
    def check(self, call, error, kept, replaced):
        by_position, by_keyword = arguments_of(call, replaced)
        with self.subTest(function=call[0].__name__, replaced=replaced):
            assert_error(self, error, kept, call[0], *by_position, **by_keyword)

    def test_each_invalid_argument_alone(self):
        for call in CALLS:
            for parameter in call[3].split():
                error, attribute = ERRORS[parameter]
                for value in odd_values(parameter, VALID[parameter]):
                    self.check(call, error, None if attribute is None else (attribute, value), {parameter: value})

    def test_first_of_several_invalid_arguments(self):
        for call in CALLS:
            order = call[3].split()
            for count in range(1, len(order) + 1):
                for names in itertools.combinations(order, count):
                    error, attribute = ERRORS[names[0]]
                    for odd in ([0], "0", 10**49, -7, True, {}, (None,)):
                        kept = None if attribute is None else (attribute, odd)
                        self.check(call, error, kept, dict.fromkeys(names, odd))

    def test_all_arguments_invalid_with_different_values(self):
        for call in CALLS:
            wrong = dict(zip(call[3].split(), ([], -1, "x", (True,), {1: 2}, 10**49, "")))
            for name in call[3].split():
                error, attribute = ERRORS[name]
                self.check(call, error, None if attribute is None else (attribute, wrong[name]), wrong)
                del wrong[name]

    def test_functions_that_ask_accept_any_value(self):
        for call in CALLS:
            function, by_position, _, _ = call
            self.assertEqual("value" in by_position, function.__name__.startswith("is_"))
            if "value" in by_position:
                for value in ODD + ((), (1,), ((1, 1), None, None), ((0, 1), (), ()), (0, (0, 2), (0,))):
                    arguments, keywords = arguments_of(call, {"value": value})
                    before = copy.deepcopy(value)
                    found = function(*arguments, **keywords)
                    self.assertIn(found, (True, False))
                    self.assertIs(type(found), bool)
                    self.assertEqual(value, before)
                arguments, keywords = arguments_of(call, {})
                self.assertIs(function(*arguments, **keywords), True)


class TestCalls(unittest.TestCase):
    def test_equal_calls_return_equal_results(self):
        for call in CALLS:
            with self.subTest(function=call[0].__name__):
                arguments, keywords = arguments_of(call, {})
                held, held_keywords = copy.deepcopy((arguments, keywords))
                first = call[0](*arguments, **keywords)
                self.assertEqual((arguments, keywords), (held, held_keywords))
                self.assertEqual(call[0](*held, **held_keywords), first)
                self.assertEqual(call[0](*arguments, **dict(reversed(keywords.items()))), first)
                self.assert_plain(first)

    def test_keywords_have_defaults(self):
        for call in CALLS:
            with self.subTest(function=call[0].__name__):
                given = {"form": None, "offline": None, "lookahead": 0, "position": (0, (0, 1), ())}
                arguments, keywords = arguments_of(call, given)
                self.assertEqual(call[0](*arguments), call[0](*arguments, **keywords))
                with self.assertRaises(TypeError):
                    call[0](*arguments, *keywords.values())

    def assert_plain(self, value):
        if type(value) is tuple:
            for part in value:
                self.assert_plain(part)
        else:
            self.assertIn(type(value), (int, bool, type(None)))


if __name__ == "__main__":
    unittest.main()

"""Stage 15: text formats."""

import random
import re
import unittest

from hindcost.errors import InvalidNumber, InvalidOperation, InvalidPolicy, InvalidSystem, ParseError
from hindcost.instances.caches import cache_policy, cache_system
from hindcost.instances.devices import device_policy, device_system
from hindcost.instances.lists import list_policy, list_system
from hindcost.instances.migration import migration_policy, migration_system
from hindcost.instances.servers import server_policy, server_system
from hindcost.policies.policies import is_policy
from hindcost.ratios.fractions import is_ratio
from hindcost.systems.systems import is_system
from hindcost.text.formats import (
    format_numbers, format_policy, format_ratio, format_system, parse_numbers, parse_policy, parse_ratio, parse_system,
)
from tests.helpers import (
    A, EIGHT, MOVE, ODD, ONE, STAY, T, UNEVEN, assert_error, random_policy, random_systems, replacements, turning,
)

FIFTY = 10**50 - 1
SYSTEMS = [A, T, ONE, EIGHT, UNEVEN, *random_systems(151, 60, sizes=(2, 3, 10), requests=(1, 2, 8))]
SIGNS = " 0123456789.,;-/abcdefghijklmnopqrstuvwxyz+_\n\t"

NUMBER = "(?:0|[1-9][0-9]{0,49})"
NUMBERS = f"{NUMBER}(?: {NUMBER})*"
COSTS = NUMBERS.replace(NUMBER, f"(?:{NUMBER}|\\.)")
# Digits that are no `0` to `9`, and other signs that look like some of the text.
STRANGE = ("\u0663", "\u00b2", "\uff11", "\u2013", "\u00a0", "\u2215", "\u0969")


def changed_texts(text):
    """All texts that differ from this one by one sign that is added, left out or another one."""
    for at in range(len(text) + 1):
        for sign in SIGNS:
            yield text[:at] + sign + text[at:]
    for at in range(len(text)):
        yield text[:at] + text[at + 1:]
        for sign in SIGNS:
            if sign != text[at]:
                yield text[:at] + sign + text[at + 1:]


def rows(text):
    return tuple(tuple(None if word == "." else int(word) for word in row.split(" ")) for row in text.split(", "))


def system_by_hand(text):
    """The system that has this text, or None, by a pattern."""
    match = re.fullmatch(f"switch ({COSTS}(?:, {COSTS})*); requests ({COSTS}(?:, {COSTS})*); start ({NUMBER})", text)
    if match is None:
        return None
    value = (rows(match[1]), rows(match[2]), int(match[3]))
    return value if is_system(value) else None


def policy_by_hand(system, text):
    pattern = f"lookahead ({NUMBER}); states ({NUMBERS}); moves ({NUMBERS}(?:, {NUMBERS})*); first ({NUMBER})"
    match = re.fullmatch(pattern, text)
    if match is None:
        return None
    value = (int(match[1]), rows(match[2])[0], rows(match[3]), int(match[4]))
    return value if is_policy(system, value) else None


def ratio_by_hand(text):
    if text == "inf":
        return (1, 0)
    match = re.fullmatch(f"({NUMBER})/({NUMBER})", text)
    value = None if match is None else (int(match[1]), int(match[2]))
    return value if is_ratio(value) and value != (1, 0) else None


def numbers_by_hand(text):
    if text == "-":
        return ()
    return rows(text)[0] if re.fullmatch(NUMBERS, text) else None


class TextTest(unittest.TestCase):
    def check_text(self, function, by_hand, text, *first):
        """The function reads the text as the pattern does, or refuses it."""
        expected = by_hand(*first, text)
        if expected is None:
            assert_error(self, ParseError, None, function, *first, text)
        else:
            self.assertEqual(function(*first, text), expected, text)

    def check_other_values(self, function, *first):
        for odd in ODD + (0, 1, (0, 1), b"-", ["0"], ("0",), A, MOVE):
            if odd != "0" or isinstance(odd, tuple):
                assert_error(self, ParseError, None, function, *first, odd)


class TestNumbers(TextTest):
    def test_examples(self):
        self.assertEqual([format_numbers((0, 12)), format_numbers(()), parse_numbers("3 0")], ["0 12", "-", (3, 0)])

    def test_texts_read_back(self):
        rng = random.Random(152)
        values = [(), (0,), (FIFTY,), (10**49,), (0, 0, 0), (1, FIFTY, 0, 10), tuple(range(100)), (7,) * 1000]
        for _ in range(200):
            values.append(tuple(rng.randrange(10 ** rng.randrange(1, 50)) for _ in range(rng.randrange(9))))
        texts = set()
        for value in values:
            text = format_numbers(value)
            self.assertEqual(text, " ".join(map(str, value)) if value else "-")
            self.assertEqual(parse_numbers(text), value)
            self.assertIs(type(parse_numbers(text)), tuple)
            texts.add(text)
        self.assertEqual(len(texts), len(set(values)))

    def test_fifty_digits(self):
        self.assertEqual(format_numbers((FIFTY,)), "9" * 50)
        self.assertEqual(parse_numbers("1" + "0" * 49), (10**49,))
        assert_error(self, InvalidOperation, None, format_numbers, (FIFTY + 1,))
        assert_error(self, InvalidOperation, None, format_numbers, (0, FIFTY + 1, 0))
        assert_error(self, InvalidOperation, None, format_numbers, (10**6000,))
        for text in ("9" * 51, "1" + "0" * 50, "0 " + "9" * 51, "9" * 51 + " 0", "1" * 6000):
            assert_error(self, ParseError, None, parse_numbers, text)

    def test_values_that_are_not_numbers(self):
        more = ([0], (0, -1), (-1,), (True,), (0, None), (0, "1"), ((0,),), 0, 12, "0 12", A, [1, 2], (1, [2]))
        for odd in ODD + more:
            if odd == () and isinstance(odd, tuple):
                continue
            if isinstance(odd, tuple) and odd == (FIFTY,):
                self.assertEqual(format_numbers(odd), "9" * 50)
                continue
            assert_error(self, InvalidOperation, None, format_numbers, odd)

    def test_changed_texts(self):
        for text in ("-", "0", "3 0", "10 2 0", "12 0 345"):
            for changed in changed_texts(text):
                self.check_text(parse_numbers, numbers_by_hand, changed)
            for sign in STRANGE:
                for at in range(len(text) + 1):
                    assert_error(self, ParseError, None, parse_numbers, text[:at] + sign + text[at:])

    def test_texts_that_are_refused(self):
        for text in (
            "", " ", "  ", "0 ", " 0", "0  1", "00", "01", "0 01", "+1", "-1", "1-", "- -", "- 1", "1 -", "--", "1,2",
            "1, 2", "1.0", ".", "0 .", "1_0", "0x1", "1e3", "one", "None", "()", "(0,)", "0\n",
            "\n0", "0\t1", "1/2", "inf",
        ):
            assert_error(self, ParseError, None, parse_numbers, text)
        self.check_other_values(parse_numbers)


class TestSystems(TextTest):
    def test_example(self):
        self.assertEqual(format_system(server_system(1, 1)), "switch 0 1, 1 0; requests 0 ., . 0; start 0")

    def test_by_hand(self):
        self.assertEqual(
            format_system(UNEVEN), "switch 0 3 5, 1 0 2, 4 6 0; requests . 4 0, 1 . ., 2 0 7; start 1"
        )
        self.assertEqual(format_system(ONE), "switch 0 1, 1 0; requests 0 0; start 0")

    def test_texts_read_back(self):
        made = [
            cache_system(5, 2), cache_system(5, 3, weights=(1, 2, 30, 4, 100)), list_system(3, swap=100),
            server_system(3, 2), device_system((9, 4, 1), (2, 7)), migration_system(((0, 100), (100, 0)), 10),
        ]
        for system in SYSTEMS + made:
            text = format_system(system)
            self.assertIs(type(text), str)
            self.assertEqual(parse_system(text), system)
            self.assertEqual(system_by_hand(text), system)

    def test_changed_texts(self):
        for system in (ONE, UNEVEN):
            for changed in changed_texts(format_system(system)):
                self.check_text(parse_system, system_by_hand, changed)
        text = format_system(ONE)
        for sign in STRANGE:
            for at in range(len(text) + 1):
                assert_error(self, ParseError, None, parse_system, text[:at] + sign + text[at:])
                assert_error(self, ParseError, None, parse_system, text[:at] + sign + text[at + 1:])

    def test_texts_that_are_refused(self):
        for text in (
            "", "switch", "switch 0 1, 1 0", "switch 0 1, 1 0; requests 0 0", "switch 0 1, 1 0; requests 0 0; start",
            "switch 0 1, 1 0; requests 0 0; start 0;", "switch 0 1, 1 0; requests 0 0; start 0; ",
            "requests 0 0; switch 0 1, 1 0; start 0", "switch 0 1, 1 0; start 0; requests 0 0",
            "switch 0 1, 1 0; requests 0 0; start 0; start 0", "switch 0 1,1 0; requests 0 0; start 0",
            "switch 0 1, 1 0;requests 0 0; start 0", "switch  0 1, 1 0; requests 0 0; start 0",
            "switch 0 1, 1 0; requests -; start 0", "switch -; requests 0 0; start 0",
            "switch 0 1; requests 0; start 0",
            "switch 0 1, 1 0; requests . .; start 0", "switch 0 ., 1 0; requests 0 0; start 0",
            "switch 0 1, 1 0; requests 0 0; start 2", "switch 0 1, 1 0; requests 0 0; start .",
            "switch 0 1, 1 0; requests 0 0; start 0 0", "switch 0 1, 1 0; requests 0 0; start -",
            "switch 0 1001, 1 0; requests 0 0; start 0", "switch 0 0, 1 0; requests 0 0; start 0",
            "switch 0 9 1, 1 0 1, 1 1 0; requests 0 0 0; start 0", "switch 0 1, 1 0; requests 0 0 0; start 0",
            "switch 0 1, 1 0; requests 00 0; start 0", "switch 0 1, 1 0; requests 0 None; start 0",
            "Switch 0 1, 1 0; requests 0 0; start 0", "switch 0 1, 1 0; Requests 0 0; start 0",
            "switch 0 1, 1 0; request 0 0; start 0", "switches 0 1, 1 0; requests 0 0; start 0",
            "switch 0 1, 1 0; requests " + ", ".join(["0 0"] * 9) + "; start 0",
            "switch 0 1, 1 0; requests 0 " + "0" * 51 + "; start 0", " switch 0 1, 1 0; requests 0 0; start 0",
        ):
            self.assertIsNone(system_by_hand(text))
            assert_error(self, ParseError, None, parse_system, text)
        self.check_other_values(parse_system)

    def test_values_that_are_not_systems(self):
        for odd in ODD + (list(A), A[:2], MOVE, format_system(A)):
            assert_error(self, InvalidSystem, None, format_system, odd)
        for odd in replacements(A):
            if not is_system(odd):
                assert_error(self, InvalidSystem, None, format_system, odd)


class TestPolicies(TextTest):
    def test_example(self):
        self.assertEqual(format_policy(T, MOVE), "lookahead 0; states 0 1; moves 0 1, 0 1; first 0")

    def test_by_hand(self):
        self.assertEqual(format_policy(A, STAY), "lookahead 0; states 0; moves 0 0; first 0")
        self.assertEqual(format_policy(ONE, turning(2, 2, 1)), "lookahead 2; states 0 0; moves 1 1 1, 0 0 0; first 0")

    def test_texts_read_back(self):
        rng = random.Random(153)
        cases = [(system, random_policy(rng, system, at % 3, 4)) for at, system in enumerate(SYSTEMS)]
        cases += [
            (cache_system(5, 4), cache_policy(5, 4, "marking")), (list_system(3), list_policy(3, "twice")),
            (server_system(3, 2), server_policy(3, 2, "double")), (device_system((2, 1), (3,)), device_policy((50,))),
            (migration_system(((0, 1), (1, 0)), 2), migration_policy(2, 20)), (ONE, turning(1000, 0, 1)),
            (cache_system(5, 2), cache_policy(5, 2, "farthest", lookahead=2)),
        ]
        for system, policy in cases:
            text = format_policy(system, policy)
            self.assertIs(type(text), str)
            self.assertEqual(parse_policy(system, text), policy)
            self.assertEqual(policy_by_hand(system, text), policy)

    def test_changed_texts(self):
        for system, policy in ((ONE, turning(2, 1, 1)), (A, MOVE)):
            for changed in changed_texts(format_policy(system, policy)):
                self.check_text(parse_policy, policy_by_hand, changed, system)

    def test_the_policy_must_be_one_of_the_system(self):
        text = format_policy(ONE, turning(2, 0, 1))
        assert_error(self, ParseError, None, parse_policy, A, text)
        assert_error(self, ParseError, None, parse_policy, (ONE[0], ONE[1], 1), text)
        self.assertEqual(parse_policy(ONE, text), turning(2, 0, 1))

    def test_texts_that_are_refused(self):
        for text in (
            "", "lookahead", "lookahead 0", "lookahead 0; states 0; moves 0 0",
            "lookahead 0; states 0; moves 0 0; first",
            "lookahead 0; states 0; moves 0 0; first 0;", "lookahead 0; states 0; moves 0 0; first 0; ",
            "states 0; lookahead 0; moves 0 0; first 0", "lookahead 0; states 0; first 0; moves 0 0",
            "lookahead 3; states 0; moves 0 0; first 0", "lookahead 1; states 0; moves 0 0; first 0",
            "lookahead 0; states -; moves 0 0; first 0", "lookahead 0; states 0; moves -; first 0",
            "lookahead 0; states 0; moves .; first 0", "lookahead 0; states 0; moves . 0; first 0",
            "lookahead 0; states .; moves 0 0; first 0", "lookahead 0; states 0, 0; moves 0 0; first 0",
            "lookahead 0; states 0 0; moves 0 0,0 0; first 0", "lookahead 0; states 2; moves 0 0; first 0",
            "lookahead 0; states 0; moves 0 1; first 0", "lookahead 0; states 0; moves 0 0; first 1",
            "lookahead 0; states 1; moves 0 0; first 0", "lookahead 0; states 0; moves 0 0; first 0 0",
            "lookahead 0 0; states 0; moves 0 0; first 0", "lookahead -; states 0; moves 0 0; first 0",
            "look-ahead 0; states 0; moves 0 0; first 0", "lookahead 00; states 0; moves 0 0; first 0",
        ):
            self.assertIsNone(policy_by_hand(A, text))
            assert_error(self, ParseError, None, parse_policy, A, text)
        self.check_other_values(parse_policy, A)

    def test_other_arguments(self):
        for odd in ODD + (list(A), A[:2], MOVE):
            for rest in (MOVE, None, "", format_policy(A, MOVE)):
                assert_error(self, InvalidSystem, None, format_policy, odd, rest)
                assert_error(self, InvalidSystem, None, parse_policy, odd, rest)
        for odd in ODD + (list(MOVE), MOVE[:3], A, format_policy(A, MOVE), turning(1, 0, 1)):
            assert_error(self, InvalidPolicy, None, format_policy, A, odd)
        for odd in replacements(MOVE):
            if not is_policy(A, odd):
                assert_error(self, InvalidPolicy, None, format_policy, A, odd)


class TestRatios(TextTest):
    def test_examples(self):
        self.assertEqual([format_ratio((5, 2)), parse_ratio("inf")], ["5/2", (1, 0)])

    def test_texts_read_back(self):
        values = [(1, 0), (0, 1), (1, 1), (12, 5), (FIFTY, 1), (1, FIFTY), (FIFTY, FIFTY - 1), (10**49, 10**49 + 1)]
        for value in values:
            self.assertEqual(format_ratio(value), "inf" if value == (1, 0) else f"{value[0]}/{value[1]}")
            self.assertEqual(parse_ratio(format_ratio(value)), value)

    def test_fifty_digits(self):
        for value in ((FIFTY + 1, 1), (1, FIFTY + 1), (FIFTY + 1, FIFTY), (10**5000, 1)):
            assert_error(self, InvalidNumber, ("value", value), format_ratio, value)
        for text in ("1" + "0" * 50 + "/1", "1/1" + "0" * 50, "9" * 51 + "/" + "1" * 50):
            assert_error(self, ParseError, None, parse_ratio, text)

    def test_changed_texts(self):
        for text in ("inf", "5/2", "0/1", "12/35", "1/1"):
            for changed in changed_texts(text):
                self.check_text(parse_ratio, ratio_by_hand, changed)
            for sign in STRANGE:
                for at in range(len(text) + 1):
                    assert_error(self, ParseError, None, parse_ratio, text[:at] + sign + text[at:])
                    assert_error(self, ParseError, None, parse_ratio, text[:at] + sign + text[at + 1:])

    def test_texts_that_are_refused(self):
        for text in (
            "", "1", "1/", "/1", "/", "1/0", "0/0", "2/4", "0/2", "1 / 2", "1/ 2", " 1/2", "1/2 ", "1//2", "1/2/3",
            "01/2", "1/02", "+1/2", "-1/2", "1/-2", "Inf", "INF", "infinity", " inf", "inf ", "1:2", "0.5", "(1, 2)",
            "none", "-",
        ):
            self.assertIsNone(ratio_by_hand(text))
            assert_error(self, ParseError, None, parse_ratio, text)
        self.check_other_values(parse_ratio)

    def test_values_that_are_not_ratios(self):
        more = ((2, 4), (0, 0), (0, 2), (2, 0), (1, -1), (-1, 1), [1, 2], (1,), (1, 2, 3), (True, 2), "1/2", 1)
        for odd in ODD + more:
            assert_error(self, InvalidNumber, ("value", odd), format_ratio, odd)


if __name__ == "__main__":
    unittest.main()

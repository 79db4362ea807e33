"""Texts of numbers, systems, policies and ratios. Each value has exactly one text."""

from hindcost.errors import InvalidNumber, InvalidOperation, ParseError
from hindcost.helpers import is_integer
from hindcost.policies.policies import check_policy, fits_policy
from hindcost.ratios.fractions import INFINITE, check_ratio, fits_fraction
from hindcost.systems.systems import check_system, is_system

MAX_DIGITS = 50
DIGITS = "0123456789"

NOTHING = "-"
NOT_ALLOWED = "."
INFINITE_TEXT = "inf"


def format_numbers(numbers):
    """Return the text of a tuple of integers of at least 0."""
    if not isinstance(numbers, tuple):
        raise InvalidOperation("not a tuple of numbers")
    for number in numbers:
        if not is_integer(number) or not fits_digits(number):
            raise InvalidOperation("not a number of at most 50 digits")
    return text_of_numbers(numbers)


def parse_numbers(text):
    """Return the tuple of numbers that has this text."""
    check_text(text)
    if text == NOTHING:
        return ()
    return read_numbers(text)


def format_system(system):
    """Return the text of the system."""
    check_system(system)
    switching, requests, start = system
    return f"switch {text_of_rows(switching)}; requests {text_of_rows(requests)}; start {start}"


def parse_system(text):
    """Return the system that has this text."""
    switching, requests, start = parts_after(text, ("switch", "requests", "start"))
    system = read_rows(switching), read_rows(requests), read_number(start)
    if not is_system(system):
        raise ParseError("not the text of a system")
    return system


def format_policy(system, policy):
    """Return the text of the policy of the system."""
    check_system(system)
    check_policy(system, policy)
    lookahead, states, moves, first = policy
    return f"lookahead {lookahead}; states {text_of_numbers(states)}; moves {text_of_rows(moves)}; first {first}"


def parse_policy(system, text):
    """Return the policy of the system that has this text."""
    check_system(system)
    lookahead, states, moves, first = parts_after(text, ("lookahead", "states", "moves", "first"))
    policy = read_number(lookahead), read_numbers(states), read_rows(moves), read_number(first)
    if not fits_policy(system, policy):
        raise ParseError("not the text of a policy of the system")
    return policy


def format_ratio(ratio):
    """Return the text of the ratio."""
    check_ratio(ratio)
    p, q = ratio
    if not fits_digits(p) or not fits_digits(q):
        raise InvalidNumber(ratio)
    return INFINITE_TEXT if ratio == INFINITE else f"{p}/{q}"


def parse_ratio(text):
    """Return the ratio that has this text."""
    check_text(text)
    if text == INFINITE_TEXT:
        return INFINITE
    numerator, _, denominator = text.partition("/")
    ratio = read_number(numerator), read_number(denominator)
    if not fits_fraction(ratio):
        raise ParseError("not the text of a fraction")
    return ratio


def fits_digits(number):
    """Return whether the integer is at least 0 and has not too many digits."""
    return 0 <= number < 10 ** 50


def text_of_numbers(numbers):
    """Return the text of the numbers, with the sign for what is not allowed in the place of None."""
    words = [NOT_ALLOWED if number is None else str(number) for number in numbers]
    return " ".join(words) if words else NOTHING


def text_of_rows(rows):
    """Return the text of the rows of a table."""
    return ", ".join([text_of_numbers(row) for row in rows])


def check_text(text):
    """Raise ParseError if the value is not a string."""
    if not isinstance(text, str):
        raise ParseError("not a string")


def parts_after(text, names):
    """Return the list of the parts of the text, which are separated by `; `, each without its name before it."""
    check_text(text)
    parts = text.split("; ")
    if len(parts) != len(names):
        raise ParseError("not as many parts as there must be")
    found = []
    for name, part in zip(names, parts):
        if not part.startswith(name + " "):
            raise ParseError("not the name of the part")
        found.append(part[len(name) + 1:])
    return found


def read_rows(text):
    """Return the table whose rows have this text."""
    return tuple([tuple([read_cost(word) for word in row.split(" ")]) for row in text.split(", ")])


def read_cost(word):
    """Return the number that is written as this word, or None for what is not allowed."""
    return None if word == NOT_ALLOWED else read_number(word)


def read_numbers(text):
    """Return the numbers, at least one, that have this text."""
    return tuple([read_number(word) for word in text.split(" ")])


def read_number(word):
    """Return the number that is written as this word."""
    if not 1 <= len(word) <= MAX_DIGITS or (word[0] == "0" and len(word) > 1):
        raise ParseError("not a number without leading zeros, of at most 50 digits")
    for sign in word:
        # Other characters are digits, too, to Python's own conversion and tests.
        if sign not in DIGITS:
            raise ParseError("not a digit")
    return int(word)

"""What the instances share: their states as tuples of places, the tables of costs, and the names of policies."""

from hindcost.errors import InvalidInstance


def rising_tuples(count, length, step):
    """Return all tuples of numbers below the count in which each number is the one before plus at least the step.

    They are in ascending order.
    """
    rows = [()]
    for _ in range(length):
        rows = [row + (number,) for row in rows for number in range(row[-1] + step if row else 0, count)]
    return tuple(rows)


def numbers_of(states):
    """Return a dict from each state to its number."""
    return {state: number for number, state in enumerate(states)}


def table_of(states, cost_between):
    """Return the table of the costs of switching from each state to each other one."""
    return tuple([tuple([cost_between(old, new) for new in states]) for old in states])


def visits(states, places):
    """Return a request for each place, which is free in the states that contain it, and not allowed elsewhere."""
    return tuple([tuple([0 if place in state else None for state in states]) for place in range(places)])


def without(row, removed):
    """Return the row without this entry."""
    return tuple([entry for entry in row if entry != removed])


def with_one_more(marks, added):
    """Return the marks, ascending, with this one among them."""
    return tuple(sorted(without(marks, added) + (added,)))


def check_word(word, words):
    """Raise InvalidInstance if the value is not one of the words."""
    if not isinstance(word, str) or word not in words:
        raise InvalidInstance("not the name of a policy for this instance")

"""Lists whose items are moved towards the front, and the policies that choose which ones."""

from hindcost.helpers import check_integer_from
from hindcost.instances.tables import check_word, numbers_of, table_of, with_one_more, without
from hindcost.policies.configurations import policy_of_configurations

MIN_ITEMS = 2
MAX_ITEMS = 3
MAX_SWAP = 100

WORDS = ("front", "transpose", "stay", "twice")


def list_states(items):
    """Return all states, as tuples of items."""
    check_integer_from(items, MIN_ITEMS, MAX_ITEMS)
    return orders_of(items)


def list_system(items, *, swap=1):
    """Return the list system."""
    check_integer_from(items, MIN_ITEMS, MAX_ITEMS)
    check_integer_from(swap, 1, MAX_SWAP)
    states = orders_of(items)
    switching = table_of(states, lambda old, new: swap * exchanges_between(old, new))
    return switching, tuple([tuple([order.index(item) + 1 for order in states]) for item in range(items)]), 0


def list_policy(items, word):
    """Return the list policy of this name."""
    check_integer_from(items, MIN_ITEMS, MAX_ITEMS)
    check_word(word, WORDS)
    states = orders_of(items)
    numbers = numbers_of(states)
    # A configuration is the order, with the ascending tuple of the marked items.
    return policy_of_configurations(
        0, items, (states[0], ()),
        lambda configuration, window: next_configuration(word, configuration, window[0]),
        lambda configuration: numbers[configuration[0]]
    )


def orders_of(items):
    """Return all orders of the items, ascending."""
    rows = [()]
    for _ in range(items):
        rows = [row + (item,) for row in rows for item in range(items) if item not in row]
    return tuple(rows)


def exchanges_between(old, new):
    """Return the least number of exchanges of neighbouring items that lead from one order to the other."""
    # Each exchange turns round one pair of items, and some exchange turns round a pair that has to be.
    places = [new.index(item) for item in old]
    turned = [1 for at in range(len(places)) for place in places[:at] if place > places[at]]
    return len(turned)


def next_configuration(word, configuration, item):
    """Return the order and the marks in which the request for the item is served."""
    order, marks = configuration
    if word == "front":
        return moved_to_front(order, item), marks
    if word == "transpose":
        return exchanged(order, item), marks
    if word == "twice" and item in marks:
        return moved_to_front(order, item), without(marks, item)
    if word == "twice":
        return order, with_one_more(marks, item)
    return configuration


def moved_to_front(order, item):
    """Return the order with the item at the front."""
    return (item,) + without(order, item)


def exchanged(order, item):
    """Return the order with the item exchanged with the one directly before it, if there is one."""
    at = order.index(item)
    if at == 0:
        return order
    return order[:at - 1] + (item, order[at - 1]) + order[at + 1:]

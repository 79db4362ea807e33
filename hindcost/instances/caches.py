"""Caches that hold some of the pages, and the policies that choose which page to remove."""

from hindcost.errors import InvalidInstance
from hindcost.helpers import are_integers_from, check_integer_from, is_tuple_of
from hindcost.instances.tables import (
    check_word, numbers_of, rising_tuples, table_of, visits, with_one_more, without
)
from hindcost.policies.configurations import policy_of_configurations
from hindcost.policies.policies import MAX_LOOKAHEAD

MAX_PAGES = 5
MAX_WEIGHT = 100

WORDS = ("lru", "mru", "fifo", "lifo", "marking", "farthest")


def cache_states(pages, capacity):
    """Return all states, as tuples of pages."""
    check_cache(pages, capacity)
    return rising_tuples(pages, capacity, 1)


def cache_system(pages, capacity, *, weights=None):
    """Return the cache system."""
    check_cache(pages, capacity)
    if weights is None:
        return system_of_cache(pages, capacity, (1,) * pages)
    if not is_tuple_of(weights, pages) or not are_integers_from(weights, 1, MAX_WEIGHT):
        raise InvalidInstance("not a tuple with a weight for each page")
    return system_of_cache(pages, capacity, weights)


def cache_policy(pages, capacity, word, *, lookahead=0):
    """Return the cache policy of this name."""
    check_cache(pages, capacity)
    check_word(word, WORDS)
    check_integer_from(lookahead, 0, MAX_LOOKAHEAD if word == "farthest" else 0)
    numbers = numbers_of(rising_tuples(pages, capacity, 1))
    first = tuple(list(range(capacity)))
    # A configuration is the queue, with the ascending tuple of the marked pages.
    return policy_of_configurations(
        lookahead, pages, (first, ()),
        lambda configuration, window: next_configuration(word, configuration, window),
        lambda configuration: numbers[tuple(sorted(configuration[0]))]
    )


def check_cache(pages, capacity):
    """Raise InvalidNumber for the first of the two numbers that is not as it must be."""
    check_integer_from(pages, 2, MAX_PAGES)
    check_integer_from(capacity, 1, pages - 1)


def system_of_cache(pages, capacity, weights):
    """Return the cache system with these weights."""
    states = rising_tuples(pages, capacity, 1)
    switching = table_of(states, lambda old, new: sum([weights[page] for page in new if page not in old]))
    return switching, visits(states, pages), 0


def next_configuration(word, configuration, window):
    """Return the queue and the marks after the window's first request."""
    queue, marks = configuration
    if word == "marking":
        return after_marking(queue, marks, window[0])
    if word == "farthest":
        return after_farthest(queue, window), marks
    return after_queueing(word, queue, window[0]), marks


def after_queueing(word, queue, page):
    """Return the queue after a request for the page, for the policies without marks and look-ahead."""
    if page in queue:
        return without(queue, page) + (page,) if word in ("lru", "mru") else queue
    kept = queue[1:] if word in ("lru", "fifo") else queue[:-1]
    return kept + (page,)


def after_marking(queue, marks, page):
    """Return the queue and the marks after a request for the page."""
    if page in queue:
        return queue, with_one_more(marks, page)
    left = () if len(marks) == len(queue) else marks
    removed = [held for held in queue if held not in left][0]
    return without(queue, removed) + (page,), with_one_more(left, page)


def after_farthest(held, window):
    """Return the pages, ascending, after the window's first request."""
    page = window[0]
    if page in held:
        return held
    removed = farthest_page(held, window[1:])
    return tuple(sorted(without(held, removed) + (page,)))


def farthest_page(held, rest):
    """Return the greatest page that does not occur in the rest, or else the one that occurs there last."""
    absent = [page for page in held if page not in rest]
    return max(absent) if absent else max(held, key=lambda page: rest.index(page))

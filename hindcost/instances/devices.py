"""Devices that sleep while they are idle, and the policies that choose how deep."""

from hindcost.errors import InvalidInstance
from hindcost.helpers import are_integers_from, check_integer_from, is_ascending, is_tuple_of
from hindcost.instances.tables import table_of

MIN_LEVELS = 2
MAX_LEVELS = 4
MAX_POWER = 100
MAX_WAKE = 100
MAX_DROP = 100
MAX_THRESHOLD = 50


def device_system(powers, wakes, *, drop=1):
    """Return the device system."""
    if not fits_powers(powers):
        raise InvalidInstance("not a tuple of powers, each smaller than the one before")
    if not is_tuple_of(wakes, len(powers) - 1) or not are_integers_from(wakes, 1, MAX_WAKE):
        raise InvalidInstance("not a tuple of wakes, one fewer than levels")
    check_integer_from(drop, 1, MAX_DROP)
    levels = tuple(list(range(len(powers))))
    # For the same level both the slice and the difference are empty.
    switching = table_of(levels, lambda old, new: sum(wakes[new:old]) + max(new - old, 0) * drop)
    work = (0,) + (None,) * (len(powers) - 1)
    return switching, (work, powers), 0


def device_policy(thresholds):
    """Return the device policy for a device with one level more than thresholds."""
    if not fits_thresholds(thresholds):
        raise InvalidInstance("not an ascending tuple of thresholds")
    last = thresholds[-1] + 1
    memories = list(range(last + 1))
    states = tuple([len([threshold for threshold in thresholds if threshold < idle]) for idle in memories])
    return 0, states, tuple([(0, min(idle + 1, last)) for idle in memories]), 0


def fits_powers(value):
    """Return whether the value is a tuple of the powers of all levels."""
    if not are_integers_from(value, 0, MAX_POWER) or not MIN_LEVELS <= len(value) <= MAX_LEVELS:
        return False
    return is_ascending(value[::-1])


def fits_thresholds(value):
    """Return whether the value is a tuple of the thresholds between all levels."""
    if not are_integers_from(value, 1, MAX_THRESHOLD) or not MIN_LEVELS <= len(value) + 1 <= MAX_LEVELS:
        return False
    return is_ascending(value)

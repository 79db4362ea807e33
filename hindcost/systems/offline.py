"""Offline systems: the systems that serve the requests in hindsight."""

from hindcost.errors import InvalidOffline
from hindcost.systems.systems import is_system


def offline_for(system, offline):
    """Return the offline system, the system itself for None; raise InvalidOffline if the value is neither."""
    if offline is None:
        return system
    if not is_system(offline) or len(offline[1]) != len(system[1]):
        raise InvalidOffline("not a system with as many requests as the system")
    return offline

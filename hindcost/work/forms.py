"""Forms: work functions up to the smallest entry."""

from hindcost.errors import InvalidWork
from hindcost.helpers import search_ways, way_to
from hindcost.systems.systems import check_request, check_system
from hindcost.work.functions import advance_work, begin_work, fits_work, split_work

MAX_FORMS = 1000


def is_form(system, value):
    """Return whether the value is a form of the system."""
    check_system(system)
    return fits_form(system, value)


def next_form(system, form, request):
    """Return the form to which the request leads, and the increase."""
    check_system(system)
    check_form(system, form)
    check_request(system, request)
    return advance_form(system, form, request)


def reachable_forms(system):
    """Return all reachable forms, ascending."""
    check_system(system)
    return tuple(sorted(ways_to_forms(system)))


def sequence_to_form(system, form):
    """Return the smallest of the shortest request tuples that lead to the form, None if it is not reachable."""
    check_system(system)
    check_form(system, form)
    ways = ways_to_forms(system)
    if form not in ways:
        return None
    return way_to(ways, form)[1]


def fits_form(system, value):
    """Return whether the value is a form of the system."""
    return fits_work(system, value) and min(value) == 0


def check_form(system, form):
    """Raise InvalidWork if the value is not a form of the system."""
    if not fits_form(system, form):
        raise InvalidWork("not a form of the system")


def advance_form(system, form, request):
    """Return the form after the request, and the increase."""
    return split_work(advance_work(system, form, request))


def ways_to_forms(system):
    """Return the search for all reachable forms."""
    # The entry for the start is 0, so the first work function is a form.
    first = begin_work(system)
    return search_ways([first], len(system[1]), lambda form, request: advance_form(system, form, request)[0], MAX_FORMS)

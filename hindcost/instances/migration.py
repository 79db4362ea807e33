"""Files that lie on one of several nodes, and the policies that choose when to move them."""

from hindcost.errors import InvalidInstance
from hindcost.helpers import check_integer_from
from hindcost.policies.configurations import policy_of_configurations
from hindcost.systems.systems import fits_switching

MIN_NODES = 2
MAX_NODES = 5
MAX_DISTANCE = 100
MAX_SIZE = 10
MAX_PATIENCE = 20


def migration_system(distances, size):
    """Return the migration system."""
    if not fits_distances(distances):
        raise InvalidInstance("not a table of distances between the nodes")
    check_integer_from(size, 1, MAX_SIZE)
    nodes = list(range(len(distances)))
    switching = tuple([tuple([size * distance for distance in row]) for row in distances])
    return switching, tuple([tuple([distances[state][node] for state in nodes]) for node in nodes]), 0


def migration_policy(nodes, patience):
    """Return the migration policy."""
    check_integer_from(nodes, MIN_NODES, MAX_NODES)
    check_integer_from(patience, 1, MAX_PATIENCE)
    return policy_of_configurations(
        0, nodes, at_home(0),
        lambda configuration, window: next_configuration(patience, configuration, window[0]),
        lambda configuration: configuration[0]
    )


def fits_distances(value):
    """Return whether the value is a table of distances between the nodes."""
    if not fits_switching(value) or len(value) > MAX_NODES:
        return False
    return max([max(row) for row in value]) <= MAX_DISTANCE


def at_home(node):
    """Return the configuration in which the file lies on the node, and no access from another node counts."""
    return node, None, 0


def next_configuration(patience, configuration, node):
    """Return the node of the file, the last accessing node and its number of accesses in a row, after an access."""
    home, last, count = configuration
    if node == home:
        return at_home(home)
    accesses = count + 1 if node == last else 1
    return at_home(node) if accesses == patience else (home, node, accesses)

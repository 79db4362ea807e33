"""What all modules need: tests of plain values, and breadth-first searches."""

from hindcost.errors import InvalidNumber, TooLarge


def is_integer(value):
    """Return whether the value is an integer."""
    # Python counts True and False among the integers, the document does not.
    return isinstance(value, int) and not isinstance(value, bool)


def is_integer_from(value, least, greatest):
    """Return whether the value is an integer from least to greatest."""
    return is_integer(value) and least <= value <= greatest


def is_tuple_of(value, size):
    """Return whether the value is a tuple with this many entries."""
    return isinstance(value, tuple) and len(value) == size


def are_integers_from(value, least, greatest):
    """Return whether the value is a tuple of integers from least to greatest."""
    if not isinstance(value, tuple):
        return False
    for number in value:
        if not is_integer_from(number, least, greatest):
            return False
    return True


def is_ascending(values):
    """Return whether each of the values is greater than the one before."""
    for at in range(1, len(values)):
        if values[at - 1] >= values[at]:
            return False
    return True


def check_integer_from(value, least, greatest):
    """Raise InvalidNumber if the value is not an integer from least to greatest."""
    if not is_integer_from(value, least, greatest):
        raise InvalidNumber(value)


def search_ways(starts, steps, follow, limit):
    """Return a dict from each node, in the order of the search, to the node before it and the step from there.

    The nodes are the starts, which have None, and all that steps from 0 to steps - 1 lead to. If there are more
    than the limit, TooLarge is raised.
    """
    # Steps are taken in ascending order, so the way that finds a node is the smallest of the shortest ways to it.
    found = list(starts)
    ways = {start: None for start in found}
    done = 0
    while done < len(found):
        node = found[done]
        done += 1
        for step in range(steps):
            following = follow(node, step)
            if following not in ways:
                if len(found) == limit:
                    raise TooLarge(limit)
                ways[following] = (node, step)
                found.append(following)
    return ways


def explore(starts, edges_from, limit):
    """Return the list of all nodes that edges lead to from the starts, and for each node the list of its edges.

    The nodes are in the order of a breadth-first search. An edge is a tuple that begins with the node that it leads
    to; in the result it begins with the number of this node. If there are more nodes than the limit, TooLarge is
    raised.
    """
    found = list(starts)
    numbers = {start: number for number, start in enumerate(found)}
    rows = []
    while len(rows) < len(found):
        edges = edges_from(found[len(rows)])
        for edge in edges:
            if edge[0] not in numbers:
                if len(found) == limit:
                    raise TooLarge(limit)
                numbers[edge[0]] = len(found)
                found.append(edge[0])
        rows.append([(numbers[edge[0]],) + edge[1:] for edge in edges])
    return found, rows


def way_to(ways, node):
    """Return the start from which the search came to the node, and the tuple of the steps."""
    backward = []
    way = ways[node]
    while way is not None:
        node, step = way
        backward.append(step)
        way = ways[node]
    return node, tuple(backward[::-1])

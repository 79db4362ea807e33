"""Plain simulations of caches, lists, servers, devices and files, request by request, from the words of the document.

Each one has `serve(window)`, which serves the first request of the window, `state()`, which returns the state as the
document writes it, and `configuration()`, which returns what the policy keeps in mind.
"""

import itertools

from tests.helpers import all_windows


class Cache:
    """[10.2] and [10.3]."""

    def __init__(self, word, capacity):
        self.word = word
        self.queue = list(range(capacity))
        self.marks = set()

    def serve(self, window):
        page = window[0]
        if page in self.queue:
            if self.word in ("lru", "mru"):
                self.queue.remove(page)
                self.queue.append(page)
            if self.word == "marking":
                self.marks.add(page)
            return
        if self.word in ("lru", "fifo"):
            self.queue.pop(0)
        elif self.word in ("mru", "lifo"):
            self.queue.pop()
        elif self.word == "marking":
            if self.marks == set(self.queue):
                self.marks.clear()
            self.queue.remove(next(held for held in self.queue if held not in self.marks))
            self.marks.add(page)
        else:
            self.queue.remove(self.farthest(window[1:]))
        self.queue.append(page)

    def farthest(self, rest):
        """The page that is removed."""
        unused = set(self.queue) - set(rest)
        if unused:
            return max(unused)
        when = {}
        for moment, page in enumerate(rest):
            when.setdefault(page, moment)
        return sorted(self.queue, key=lambda page: when[page])[-1]

    def state(self):
        return tuple(sorted(self.queue))

    def configuration(self):
        if self.word == "farthest":
            return self.state()
        return tuple(self.queue), frozenset(self.marks)


class List:
    """[11.2]."""

    def __init__(self, word, items):
        self.word = word
        self.order = list(range(items))
        self.marked = [False] * items

    def serve(self, window):
        item = window[0]
        if self.word == "front":
            self.to_front(item)
        elif self.word == "transpose":
            at = self.order.index(item)
            if at > 0:
                self.order[at - 1], self.order[at] = self.order[at], self.order[at - 1]
        elif self.word == "twice":
            if self.marked[item]:
                self.to_front(item)
            self.marked[item] = not self.marked[item]

    def to_front(self, item):
        self.order.remove(item)
        self.order.insert(0, item)

    def state(self):
        return tuple(self.order)

    def configuration(self):
        return tuple(self.order), tuple(self.marked)


class Servers:
    """[11.4]."""

    def __init__(self, word, servers):
        self.word = word
        self.points = [0] * servers

    def serve(self, window):
        target = window[0]
        if target in self.points:
            return
        left = [at for at, point in enumerate(self.points) if point < target]
        right = [at for at, point in enumerate(self.points) if point > target]
        nearest_left = left[-1] if left else None
        nearest_right = right[0] if right else None
        if nearest_left is None:
            self.points[nearest_right] = target
        elif nearest_right is None:
            self.points[nearest_left] = target
        else:
            ways = (target - self.points[nearest_left], self.points[nearest_right] - target)
            if self.word == "double":
                self.points[nearest_left] += min(ways)
                self.points[nearest_right] -= min(ways)
            elif ways[0] <= ways[1]:
                self.points[nearest_left] = target
            else:
                self.points[nearest_right] = target
        self.points.sort()

    def state(self):
        return tuple(self.points)

    def configuration(self):
        return tuple(self.points)


class Device:
    """[12.2]; request 0 is work, request 1 is idle."""

    def __init__(self, thresholds):
        self.thresholds = thresholds
        self.idle = 0

    def serve(self, window):
        self.idle = self.idle + 1 if window[0] == 1 else 0

    def state(self):
        return sum(threshold < self.idle for threshold in self.thresholds)

    def configuration(self):
        return min(self.idle, max(self.thresholds) + 1)


class File:
    """[12.4]."""

    def __init__(self, patience):
        self.patience = patience
        self.node = 0
        self.row = []

    def serve(self, window):
        node = window[0]
        if node == self.node:
            self.row = []
            return
        if self.row and self.row[-1] != node:
            self.row = []
        self.row.append(node)
        if len(self.row) == self.patience:
            self.node = node
            self.row = []

    def state(self):
        return self.node

    def configuration(self):
        return self.node, tuple(self.row)


def schedule_by_simulation(simulation, lookahead, sequence):
    """The states, as the document writes them, in which the requests of the sequence are served."""
    states = []
    for at in range(len(sequence)):
        simulation.serve(sequence[at:at + lookahead + 1])
        states.append(simulation.state())
    return states


def policy_by_simulation(make, lookahead, requests, states):
    """The policy of [10.5]; `make` makes a new simulation, `states` has all states as the document writes them."""
    windows = all_windows(requests, lookahead)
    ways = {make().configuration(): ()}
    order = list(ways)
    rows = []
    for configuration in order:
        row = []
        for window in windows:
            simulation = simulated(make, ways[configuration] + (window,))
            reached = simulation.configuration()
            if reached not in ways:
                ways[reached] = ways[configuration] + (window,)
                order.append(reached)
            row.append(order.index(reached))
        rows.append(tuple(row))
    found = tuple(list(states).index(simulated(make, ways[configuration]).state()) for configuration in order)
    return (lookahead, found, tuple(rows), 0)


def simulated(make, windows):
    """The simulation after the windows."""
    simulation = make()
    for window in windows:
        simulation.serve(window)
    return simulation


def ascending_choices(count, length):
    return tuple(itertools.combinations(range(count), length))

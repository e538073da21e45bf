"""Ways through a graph no two of which share a node, and as few nodes that bar all ways."""


class Ways:
    """Ways from some nodes to others, each node on one of them at most; no more ways are possible.

    steps is a dict from each node to the nodes that a step leads to, begins the list of the
    nodes at which ways begin, ends a dict of those at which they end. Each node has two gates,
    one where ways come in and one where they go out: gate 2 * node and gate 2 * node + 1.
    A change goes from gate to gate: on by a step that no way takes, or back along one.
    """

    def __init__(self, steps, begins, ends):
        self._steps = steps
        self._begins = begins
        self._ends = ends
        self._used = {}
        self._next = {}
        self._last = {}
        self._came = {}
        gate = self._search()
        while gate is not None:
            self._change(gate)
            gate = self._search()

    def ways(self):
        """The list of the ways, each one the list of its nodes."""
        found = []
        for node in sorted(self._used):
            if node not in self._last:
                way = [node]
                while way[-1] in self._next:
                    way.append(self._next[way[-1]])
                found.append(way)
        return found

    def bar(self):
        """As few nodes as there are ways, ascending, one of them on each way that is possible."""
        return sorted([node for node in self._used if 2 * node in self._came and 2 * node + 1 not in self._came])

    def _search(self):
        """The gate at which a change ends that makes one way more, None if there is none."""
        self._came = {2 * node: None for node in self._begins}
        queue = [2 * node for node in self._begins]
        at = 0
        while at < len(queue):
            gate = queue[at]
            at += 1
            if gate % 2 == 1 and gate // 2 in self._ends and gate // 2 not in self._used:
                return gate
            for other in self._gates_behind(gate):
                if other not in self._came:
                    self._came[other] = gate
                    queue.append(other)
        return None

    def _gates_behind(self, gate):
        node = gate // 2
        if gate % 2 == 1:
            back = [gate - 1] if node in self._used else []
            return back + [2 * other for other in self._steps[node]]
        if node not in self._used:
            return [gate + 1]
        return [2 * self._last[node] + 1] if node in self._last else []

    def _change(self, gate):
        """Makes the change that ends at a gate: what it goes back along first, then what it goes on by."""
        added = []
        while gate is not None:
            ahead = self._came[gate]
            node = gate // 2
            if ahead is None:
                added.append((None, node))
            elif gate % 2 == 0 and ahead // 2 == node:
                del self._used[node]
            elif gate % 2 == 0:
                added.append((ahead // 2, node))
            elif ahead // 2 == node:
                added.append((node, node))
            else:
                del self._next[node]
                del self._last[ahead // 2]
            gate = ahead
        for one, other in added:
            self._add(one, other)

    def _add(self, one, other):
        """Puts down the step from one node to another one, or that a node is used now."""
        if one == other:
            self._used[other] = True
        elif one is not None:
            self._next[one] = other
            self._last[other] = one

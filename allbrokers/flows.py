"""Flows of least cost through networks of nodes with names."""


class Network:
    """Nodes with names, and arcs between them with room and cost, on which a flow is kept.

    Each arc has a twin, next to it, that takes back what flows on it. There is no loop of negative costs at first.
    """

    def __init__(self):
        self._places = {}
        self._arcs_at = []
        self._starts, self._goals, self._rooms, self._costs = [], [], [], []

    def new_arc(self, start, goal, room, cost):
        """The number of a new arc with room and cost."""
        low, high = self._place_of(start), self._place_of(goal)
        for one, other, left, price in ((low, high, room, cost), (high, low, 0, -cost)):
            self._arcs_at[one].append(len(self._starts))
            self._starts.append(one)
            self._goals.append(other)
            self._rooms.append(left)
            self._costs.append(price)
        return len(self._starts) - 2

    def _place_of(self, name):
        """The place of a node, a new one for a new name."""
        if name not in self._places:
            self._places[name] = len(self._arcs_at)
            self._arcs_at.append([])
        return self._places[name]

    def flow_on(self, arc):
        """How much flows on an arc."""
        return self._rooms[arc + 1]

    def send_all(self, source, sink):
        """Send as much as can be from a node to another one, at the least cost."""
        start, goal = self._place_of(source), self._place_of(sink)
        while True:
            arcs = self._cheapest_way(start, goal)
            if not arcs:
                return
            many = min([self._rooms[arc] for arc in arcs])
            for arc in arcs:
                self._rooms[arc] -= many
                # The twin of an even arc is behind it, that of an odd one in front.
                self._rooms[arc + 1 - 2 * (arc % 2)] += many

    def _cheapest_way(self, start, goal):
        """The list of the arcs on a cheapest way with room, from its end; empty if there is no way."""
        _, origins = self._distances([start])
        arcs = []
        while goal != start:
            if goal not in origins:
                return []
            arcs.append(origins[goal])
            goal = self._starts[origins[goal]]
        return arcs

    def _distances(self, starts):
        """The least costs of ways with room from some nodes, and the last arc of such a way, by nodes."""
        queue, at, far, origins = list(starts), 0, {place: 0 for place in starts}, {}
        is_waiting = {place: True for place in starts}
        while at < len(queue):
            place = queue[at]
            at += 1
            is_waiting[place] = False
            for arc in self._arcs_at[place]:
                goal, cost = self._goals[arc], far[place] + self._costs[arc]
                if self._rooms[arc] > 0 and (goal not in far or cost < far[goal]):
                    far[goal] = cost
                    origins[goal] = arc
                    if not is_waiting.get(goal, False):
                        is_waiting[goal] = True
                        queue.append(goal)
        return far, origins

    def heights(self):
        """The dict from names to heights, such that no arc with room leads higher than it costs."""
        far, _ = self._distances(list(self._places.values()))
        return {name: far[place] for name, place in self._places.items()}

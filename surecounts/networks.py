"""Networks: numbers that flow along arcs between nodes, as much as comes into a node out of it again.

The greatest weight that can flow is found by the simplex method for networks. A tree of arcs joins all nodes to
node 0; an arc outside of it that would carry more weight is taken into it, and one that then is full or empty leaves
it. How many steps this takes does not depend on how great the numbers are.
"""


class Network:
    """Arcs (tail, head, low, high, weight), each with a flow from low to high; a high may be None.

    No way round may carry more and more weight without an end.
    """

    def __init__(self, nodes, arcs):
        self._nodes = nodes
        self._own = len(arcs)
        self._arcs = list(arcs)
        self._flows = [arc[2] for arc in arcs]
        self._parents = [0] * nodes
        self._ups = [0] * nodes
        self._depths = [0] * nodes
        self._potentials = [0] * nodes
        self._add_helpers()
        self._measure()
        arc = self._entering()
        while arc is not None:
            self._turn(arc)
            arc = self._entering()

    def lacking(self):
        """How much the lows ask for and the highs do not let pass: 0 exactly if there are such flows."""
        return sum(self._flows[self._own:])

    def flow(self, arc):
        """What flows along an arc."""
        return self._flows[arc]

    def price(self, arc):
        """What one more along an arc is worth: above 0 only at its high, below 0 only at its low."""
        tail, head, _, _, weight = self._arcs[arc]
        return weight + self._potentials[tail] - self._potentials[head]

    def _add_helpers(self):
        """Gives each node an arc from or to node 0 that takes what the lows leave over or lack there.

        Its weight is so low that nothing flows along it if there is another way.
        """
        over = [0] * self._nodes
        for tail, head, low, _, _ in self._arcs:
            over[tail] -= low
            over[head] += low
        weight = -1 - sum([abs(arc[4]) for arc in self._arcs])
        for node in range(1, self._nodes):
            self._ups[node] = len(self._arcs)
            ends = (node, 0) if over[node] >= 0 else (0, node)
            self._arcs.append((*ends, 0, None, weight))
            self._flows.append(abs(over[node]))

    def _measure(self):
        """Sets depths and potentials by the tree: along its arcs nothing is to be gained."""
        known = [node == 0 for node in range(self._nodes)]
        for start in range(self._nodes):
            path = []
            node = start
            while not known[node]:
                path.append(node)
                node = self._parents[node]
            for below in reversed(path):
                parent = self._parents[below]
                tail, _, _, _, weight = self._arcs[self._ups[below]]
                self._depths[below] = self._depths[parent] + 1
                self._potentials[below] = self._potentials[parent] + (-weight if tail == below else weight)
                known[below] = True

    def _room(self, arc, forward):
        """How much more can flow along an arc, or be taken off; None if any number."""
        _, _, low, high, _ = self._arcs[arc]
        if not forward:
            return self._flows[arc] - low
        return None if high is None else high - self._flows[arc]

    def _entering(self):
        """The arc with room on which most is to be gained, or None."""
        best = None
        gain = 0
        for arc in range(self._own):
            price = self.price(arc)
            if abs(price) > gain and self._room(arc, price > 0) != 0:
                best = arc
                gain = abs(price)
        return best

    def _climb(self, one, other):
        """The nodes from each of two up to where their ways to node 0 meet, this one left out."""
        ones = []
        others = []
        while one != other:
            if self._depths[one] >= self._depths[other]:
                ones.append(one)
                one = self._parents[one]
            else:
                others.append(other)
                other = self._parents[other]
        return (ones, others)

    def _turn(self, arc):
        """Lets as much as can be flow round the way that an arc closes, and puts it into the tree."""
        forward = self.price(arc) > 0
        start, stop = self._arcs[arc][:2] if forward else (self._arcs[arc][1], self._arcs[arc][0])
        downs, ups = self._climb(start, stop)
        steps = [(self._ups[node], self._arcs[self._ups[node]][1] == node) for node in reversed(downs)]
        steps.append((arc, forward))
        steps.extend([(self._ups[node], self._arcs[self._ups[node]][0] == node) for node in ups])
        rooms = [self._room(step, ahead) for step, ahead in steps]
        least = min([room for room in rooms if room is not None])
        for step, ahead in steps:
            self._flows[step] += least if ahead else -least
        # The last one of those without room leaves: with any other choice the steps could go round without an end.
        last = max([at for at, room in enumerate(rooms) if room == least])
        if last < len(downs):
            self._hang(start, stop, arc, downs[len(downs) - 1 - last])
        elif last > len(downs):
            self._hang(stop, start, arc, ups[last - len(downs) - 1])

    def _hang(self, node, parent, arc, top):
        """Hangs the part of the tree under top to another parent, by a node of it and an arc."""
        up = arc
        below = node
        above = parent
        while below != top:
            after = self._parents[below]
            next_up = self._ups[below]
            self._parents[below] = above
            self._ups[below] = up
            above = below
            below = after
            up = next_up
        self._parents[top] = above
        self._ups[top] = up
        self._measure()

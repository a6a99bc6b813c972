"""Facts as a network: the rows of a table flow through the sets of the facts, cell by cell.

They come from node 0 through the facts `all`, down the nested left sets, through their cells, up the nested right
sets and back to node 0. The fact with an index is an arc to or from node index + 1.
"""

from surecounts.networks import Network
from surecounts.wheres import covers


def indexes_of(given, kind):
    """The ascending list of the indexes of the facts of a kind."""
    return [index for index, fact in enumerate(given) if fact[0][0] == kind]


def side_ends(size, given, kind, root):
    """For one column: the dict of the outer nodes of its facts, and the list of the innermost nodes of its values."""
    outer = {}
    inner = [root] * size
    for index in sorted(indexes_of(given, kind), key=lambda at: -len(given[at][0][1])):
        values = given[index][0][1]
        outer[index] = inner[values[0]]
        for value in values:
            inner[value] = index + 1
    return (outer, inner)


def arcs_between(left, right, given):
    """The pairs of nodes of all facts, and behind them those of all cells, ascending."""
    ways = [(0, 0)] * len(given)
    root = 0
    for index in indexes_of(given, "all"):
        ways[index] = (root, index + 1)
        root = index + 1
    outer, lefts = side_ends(left, given, "left", root)
    for index in outer:
        ways[index] = (outer[index], index + 1)
    outer, rights = side_ends(right, given, "right", 0)
    for index in outer:
        ways[index] = (index + 1, outer[index])
    starts = [[lefts[a]] * right for a in range(left)]
    for index in indexes_of(given, "cell"):
        _, a, b = given[index][0]
        ways[index] = (starts[a][b], index + 1)
        starts[a][b] = index + 1
    return ways + [(starts[a][b], rights[b]) for a in range(left) for b in range(right)]


def solve(left, right, given, weights):
    """For a list of facts, the tuple (lacking, counts, prices): how much is lacking to a table that fits.

    If nothing is lacking, counts are those of a table that fits and has the greatest number, and prices show it from
    above. If something is, and all weights are 0, the prices show a number below 0 from above. No cell with a weight
    above 0 may be without a fact with a high over it.
    """
    ways = arcs_between(left, right, given)
    limits = [(fact[1], fact[2], 0) for fact in given]
    limits.extend([(0, None, weight) for line in weights for weight in line])
    network = Network(len(given) + 1, [(*pair, *limit) for pair, limit in zip(ways, limits)])
    first = len(given)
    counts = tuple([tuple([network.flow(first + a * right + b) for b in range(right)]) for a in range(left)])
    return (network.lacking(), counts, tuple([network.price(index) for index in range(first)]))


def has_high(given, left, right):
    """Whether one of a list of facts over a cell has a high."""
    return any([fact[2] is not None and covers(fact[0], left, right) for fact in given])

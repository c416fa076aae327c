"""What the document says of leaving orders, whole lots, parting lots and lot trees, by its words: slow."""

from functools import lru_cache
from itertools import combinations, permutations

from tests import oracle
from tests.at_hand import lots


def is_leaving_row(web, row):
    return all(place in oracle.leavers_among(web, row[at:]) for at, place in enumerate(row))


def orders(web):
    """All leaving orders, ascending."""
    return [row for row in permutations(range(web[0])) if is_leaving_row(web, row)]


def tied_lots(web):
    return [lot for lot in lots(web[0]) if oracle.all_tied(web, lot)]


@lru_cache(maxsize=None)
def whole_lots(web):
    found = [set(lot) for lot in tied_lots(web)]
    return sorted(tuple(sorted(lot)) for lot in found if not any(lot < other for other in found))


def parts(web, lot, x, y):
    """Whether the lot parts the two places."""
    homes = [piece for piece in oracle.pieces(web, lot) if x in piece or y in piece]
    return len(homes) == 2


def parting_lots(web, x, y):
    return [lot for lot in lots(web[0]) if parts(web, lot, x, y)]


def least_lots(web, x, y):
    """The least parting lots of the two places, in lot order."""
    found = parting_lots(web, x, y)
    return [lot for lot in found if not any(set(other) < set(lot) for other in found)]


def all_least_lots(web):
    """The least parting lots of the web, in lot order."""
    told = [least_lots(web, x, y) for x, y in combinations(range(web[0]), 2)]
    return [lot for lot in lots(web[0]) if any(lot in found for found in told)]


def full_pieces(web, lot):
    return [piece for piece in oracle.pieces(web, lot)
            if all(any(oracle.tied(web, x, y) for y in piece) for x in lot)]


def crosses(web, lot, other):
    return any(parts(web, lot, x, y) for x, y in combinations(other, 2))


def is_joined(nodes, tree):
    """Whether one comes along the branches between some whole lots from each of them to each other one."""
    nodes = set(nodes)
    between = [branch for branch in tree if nodes.issuperset(branch)]
    reached = set(sorted(nodes)[:1])
    for _ in between:
        for i, j in between:
            if i in reached or j in reached:
                reached |= {i, j}
    return reached == nodes


@lru_cache(maxsize=None)
def joining_trees(many):
    """All joining trees of so many whole lots, ascending."""
    every = list(combinations(range(many), 2))
    return [tree for tree in combinations(every, many - 1) if is_joined(range(many), tree)]


def split(web, tree):
    """The least place whose whole lots are not joined along branches between them; None if there is none."""
    wholes = whole_lots(web)
    for place in range(web[0]):
        if not is_joined([at for at, lot in enumerate(wholes) if place in lot], tree):
            return place
    return None


@lru_cache(maxsize=None)
def lot_trees(web):
    return [tree for tree in joining_trees(len(whole_lots(web))) if split(web, tree) is None]


def meets(web, tree):
    wholes = whole_lots(web)
    return [tuple(x for x in wholes[i] if x in wholes[j]) for i, j in tree]


def exchange(tree, branch, other):
    return tuple(sorted([held for held in tree if held != branch] + [other]))


def exchanges(web, tree, found):
    """All exchanges of the lot tree; found are all lot trees of the web."""
    every = list(combinations(range(len(whole_lots(web))), 2))
    return [(branch, other) for branch in tree for other in every
            if other not in tree and exchange(tree, branch, other) in found]


def tree_ways(tree, i, j):
    """The ways in the tree from the one whole lot to the other one: there is just one."""
    ways = [(i,)]
    for way in ways:
        ways += [(*way, k) for k in range(len(tree) + 1)
                 if k not in way and (min(way[-1], k), max(way[-1], k)) in tree]
    return [way for way in ways if way[-1] == j]

"""Each function of the program with right arguments, and wrong ones for each parameter."""

from leaveorder import bare_rounds, errors, leaving, lot_trees, partings, webs, whole_lots
from tests.at_hand import BIG, ODD_VALUES, deep

FAN = (4, ((0, 1), (0, 2), (0, 3), (1, 2), (2, 3)))
HOUSE = (5, ((0, 1), (0, 3), (0, 4), (1, 2), (1, 4), (2, 3)))
# A leaving web with four whole lots, three branches of one meet and one of another meet.
TWIG = (5, ((0, 1), (0, 2), (0, 3), (3, 4)))
TREE, OTHER_TREE = ((0, 1), (0, 2), (2, 3)), ((0, 2), (1, 2), (2, 3))

MODULES = (webs, leaving, bare_rounds, whole_lots, partings, lot_trees)

# Each function, its parameters and right arguments: all webs have five places, but for the last one of beside.
CALLS = [
    (webs.neighbours, ("web", "place"), (HOUSE, 2)),
    (webs.is_tied, ("web", "lot"), (HOUSE, (0, 1))),
    (webs.is_apart, ("web", "lot"), (HOUSE, (0, 2))),
    (webs.pieces, ("web", "lot"), (HOUSE, (0, 2))),
    (webs.inner, ("web", "lot"), (HOUSE, (0, 2, 3))),
    (webs.renamed, ("web", "row"), (HOUSE, (4, 2, 0, 1, 3))),
    (webs.beside, ("web", "other_web"), (HOUSE, FAN)),
    (webs.with_tie, ("web", "place", "other_place"), (HOUSE, 4, 2)),
    (webs.less_tie, ("web", "tie"), (HOUSE, (1, 4))),
    (webs.mirrored, ("web",), (HOUSE,)),
    (webs.web_text, ("web",), (HOUSE,)),
    (leaving.may_leave, ("web", "lot"), (HOUSE, (0, 2))),
    (leaving.is_leaving, ("web",), (HOUSE,)),
    (leaving.is_order, ("web", "value"), (TWIG, (1, 2, 0, 3, 4))),
    (leaving.first_order, ("web",), (TWIG,)),
    (leaving.order_ending, ("web", "lot"), (TWIG, (0, 2))),
    (leaving.later_neighbours, ("web", "row"), (HOUSE, (4, 2, 0, 1, 3))),
    (leaving.first_hitch, ("web", "row"), (HOUSE, (4, 2, 0, 1, 3))),
    (bare_rounds.is_bare, ("web", "value"), (HOUSE, (0, 1, 2, 3))),
    (bare_rounds.bare_ring, ("web",), (HOUSE,)),
    (bare_rounds.bare_rings, ("web",), (HOUSE,)),
    (bare_rounds.least_bare, ("web",), (HOUSE,)),
    (bare_rounds.bare_through, ("web", "tie"), (HOUSE, (0, 3))),
    (bare_rounds.ring_told, ("web", "row"), (HOUSE, (3, 2, 1, 0))),
    (bare_rounds.ties_across, ("web", "row"), (HOUSE, (3, 2, 1, 4, 0))),
    (bare_rounds.bared, ("web", "row"), (HOUSE, (3, 2, 1, 4, 0))),
    (bare_rounds.rest, ("web",), (HOUSE,)),
    (bare_rounds.rest_among, ("web", "lot"), (HOUSE, (0, 1, 2, 3))),
    (bare_rounds.least_stuck, ("web",), (HOUSE,)),
    (whole_lots.whole_lots, ("web",), (HOUSE,)),
    (whole_lots.is_whole, ("web", "lot"), (HOUSE, (1, 2))),
    (whole_lots.lots_with, ("web", "place"), (HOUSE, 2)),
    (whole_lots.greatest_lot, ("web",), (HOUSE,)),
    (whole_lots.tied_counts, ("web",), (HOUSE,)),
    (whole_lots.heads, ("web", "order"), (TWIG, (1, 2, 0, 3, 4))),
    (partings.is_parting, ("web", "lot", "place", "other_place"), (HOUSE, (0, 2), 4, 3)),
    (partings.is_least_parting, ("web", "lot", "place", "other_place"), (HOUSE, (0, 2), 1, 3)),
    (partings.least_in, ("web", "lot", "place", "other_place"), (HOUSE, (0, 1, 3), 4, 2)),
    (partings.partings_of, ("web", "place", "other_place"), (HOUSE, 4, 2)),
    (partings.fewest_parting, ("web", "place", "other_place"), (HOUSE, 4, 2)),
    (partings.partings, ("web",), (HOUSE,)),
    (partings.full_pieces, ("web", "lot"), (HOUSE, (0, 2))),
    (partings.is_crossing, ("web", "lot", "other_lot"), (HOUSE, (0, 2), (1, 3))),
    (partings.first_crossing, ("web",), (HOUSE,)),
    (partings.part_counts, ("web",), (TWIG,)),
    (lot_trees.is_lot_tree, ("web", "value"), (TWIG, TREE)),
    (lot_trees.first_tree, ("web",), (TWIG,)),
    (lot_trees.meets, ("web", "tree"), (TWIG, TREE)),
    (lot_trees.tree_sum, ("web", "tree"), (TWIG, TREE)),
    (lot_trees.split_place, ("web", "tree"), (TWIG, TREE)),
    (lot_trees.way_meets, ("web", "tree", "place", "other_place"), (TWIG, TREE, 4, 1)),
    (lot_trees.tree_count, ("web",), (TWIG,)),
    (lot_trees.trees, ("web",), (TWIG,)),
    (lot_trees.nth_tree, ("web", "number"), (TWIG, 2)),
    (lot_trees.tree_number, ("web", "tree"), (TWIG, TREE)),
    (lot_trees.branches, ("web",), (TWIG,)),
    (lot_trees.fixed_branches, ("web",), (TWIG,)),
    (lot_trees.tree_exchanges, ("web", "tree"), (TWIG, TREE)),
    (lot_trees.tree_exchanged, ("web", "tree", "branch", "other_branch"), (TWIG, TREE, (0, 1), (1, 2))),
    (lot_trees.tree_row, ("web", "tree", "other_tree"), (TWIG, TREE, OTHER_TREE)),
    (lot_trees.is_tree_row, ("web", "tree", "other_tree", "value"), (TWIG, TREE, OTHER_TREE, [((0, 1), (1, 2))])),
]
ANY_VALUE = [(webs.is_web, ("value",), (HOUSE,)), (webs.web_told, ("text",), ("e:ab,de",))]

# What tells a list; each of its entries is made of tuples, lots and integers alone.
LISTS = (
    webs.pieces, bare_rounds.bare_rings, leaving.later_neighbours, whole_lots.whole_lots, whole_lots.lots_with,
    partings.partings_of, partings.partings, partings.full_pieces, partings.part_counts, lot_trees.meets,
    lot_trees.way_meets, lot_trees.trees, lot_trees.branches, lot_trees.fixed_branches, lot_trees.tree_exchanges,
    lot_trees.tree_row,
)

ERRORS = {
    "web": errors.InvalidWeb, "other_web": errors.InvalidWeb, "place": errors.InvalidPlace,
    "other_place": errors.InvalidPlace, "tie": errors.InvalidTie, "lot": errors.InvalidLot,
    "other_lot": errors.InvalidLot, "row": errors.InvalidRow, "order": errors.InvalidRow,
    "number": errors.InvalidCount, "tree": errors.InvalidTree, "other_tree": errors.InvalidTree,
    "branch": errors.InvalidBranch, "other_branch": errors.InvalidBranch,
}

WRONG_WEBS = ODD_VALUES + [
    (), (5,), 5, (5, [], ()), [5, ()], (5, []), (5, None), (0, ()), (13, ()), (True, ()), ("5", ()), (None, ()),
    (BIG, ()), (5, ((1, 0),)), (5, ((0, 0),)), (5, ((0, 5),)), (5, ((0, 1), (0, 1))), (5, ((0, 2), (0, 1))),
    (5, ([0, 1],)), (5, ((0, True),)), (5, ((0, BIG),)), (5, (deep(tuple),)), (5, deep(list)), "e:ab",
]
WRONG_PLACES = ODD_VALUES + [5, (0,), "2", (2,), [2], HOUSE]
WRONG_LOTS = ODD_VALUES + [
    (1, 0), (0, 0), (0, 5), (0, 1, 1), [0, 2], (0, True), (0, (1,)), (0, 2, None), (0, 1, 2, 3, 4, 5), HOUSE, 0,
]
WRONG_ROWS = ODD_VALUES + [
    (), (0,), (0, 1, 2, 3, 4, 5), (0, 1, 2, 3, 3), (0, 1, 2, 3, 5), (-1, 0, 1, 2, 3), (False, 1, 2, 3, 4),
    (0, True, 2, 3, 4), [0, 1, 2, 3, 4], [3, 2, 1, 0], (0, 1, 2, 3, BIG), (0, 1, 2, 3, (4,)), (0, 1, 2, 3, "e"), 0,
    (0, 1, 2, 3, None), (0, 1, 2, 3, deep(list)), HOUSE, (1, 2, 3), (0, 1, 4), (0, 1, 2, 3, 4, 0),
]
WRONG_TIES = ODD_VALUES + [
    (0, 2), (2, 4), (1, 0), (3, 0), (0, 0), [0, 1], (0, True), (False, 1), (0, 1, 4), (0,), (), (4, 5), 0, HOUSE,
    ((0, 1),), (0, 5), (True, 2), (1, 4, None),
]
# Rows of all places of the twig that are no leaving order.
NO_ORDERS = [(0, 1, 2, 3, 4), (1, 0, 2, 3, 4), (1, 3, 0, 2, 4), (2, 1, 3, 4, 0), (4, 1, 0, 3, 2)]
NUMBERS = (12, 13, BIG)
WRONG_NUMBERS = [value for value in ODD_VALUES if value not in NUMBERS or value is True] + [
    (), (1,), "1", [1], -2, HOUSE, TREE]
WRONG_TREES = ODD_VALUES + [
    (), 0, [], [(0, 1), (0, 2), (2, 3)], ((0, 1), (0, 2)), ((0, 1), (0, 2), (1, 2)), ((0, 2), (0, 1), (2, 3)),
    ((0, 1), (0, 1), (2, 3)), ((0, 1), (0, 2), (0, 3), (1, 2)), ((0, 1), (0, 2), (0, 4)), ((0, 1), (0, 2), (3, 2)),
    ((1, 0), (0, 2), (2, 3)), ((0, 0), (0, 2), (2, 3)), ((0, 1), (0, 2), [2, 3]), ((0, 1), (0, 2), (2, 3, 3)),
    ((0, 1), (0, 2), (2,)), ((False, 1), (0, 2), (2, 3)), ((0, True), (0, 2), (2, 3)), ((0, 1), (0, 2), (2, BIG)),
    ((-1, 1), (0, 2), (2, 3)), ((0, 1), (0, 2), (2, None)), ((0, 1), (0, 2), ("2", "3")), ((0, 1), (0, 2), None),
    ((0, 1), (0, 2), deep(tuple)), ((0, 1), (0, 2), deep(list)), (TREE,), HOUSE, ((0, 1), (0, 2), (2, 3), (2, 3)),
    "abacde", ((0, 1), (2, 3)), ((0, 1), (1, 2), (2, 3), (3, 4)), ((0, 1), (0, 2), (1, 2), (2, 3)),
]
WRONG_BRANCHES = ODD_VALUES + [
    (), 0, (0,), (0, 4), (3, 4), (1, 0), (0, 0), (3, 3), [0, 1], (0, True), (False, 1), (0, 1, 2), (-1, 2), (0, BIG),
    (0, None), ("0", "1"), ((0, 1),), TREE, HOUSE, (0, (1,)), (deep(list), 1),
]
WRONG = {
    "web": WRONG_WEBS, "other_web": WRONG_WEBS, "place": WRONG_PLACES, "other_place": WRONG_PLACES, "tie": WRONG_TIES,
    "lot": WRONG_LOTS, "other_lot": WRONG_LOTS, "row": WRONG_ROWS, "order": WRONG_ROWS + NO_ORDERS,
    "number": WRONG_NUMBERS, "tree": WRONG_TREES, "other_tree": WRONG_TREES, "branch": WRONG_BRANCHES,
    "other_branch": WRONG_BRANCHES,
}
ROUNDS = (bare_rounds.ring_told, bare_rounds.ties_across, bare_rounds.bared)


def wrong_values(function, names, right, name):
    """Wrong arguments for the parameter of the function, if all else is as in the list of calls."""
    if name == "lot" and function is webs.inner:
        return WRONG_LOTS + [()]
    if name == "other_place":
        return WRONG_PLACES + [right[names.index("place")]]
    if name == "row":
        # A row of four places is right for a round; one that does not go round is right for the others.
        return WRONG_ROWS + ([(0, 1, 2, 4), (0, 1, 2, 3, 4), (0, 1, 3, 4)] if function in ROUNDS else [(0, 1, 2, 3)])
    return WRONG[name]

"""Wrong arguments for each parameter, and the webs of the right calls."""

from leaveorder import bare_rounds, covers, dyes, errors, joining, stretches, subtrees, tables, webs
from tests.at_hand import BIG, ODD_VALUES, deep

FAN = (4, ((0, 1), (0, 2), (0, 3), (1, 2), (2, 3)))
HOUSE = (5, ((0, 1), (0, 3), (0, 4), (1, 2), (1, 4), (2, 3)))
# A leaving web with four whole lots, three branches of one meet and one of another meet.
TWIG = (5, ((0, 1), (0, 2), (0, 3), (3, 4)))
TREE, OTHER_TREE = ((0, 1), (0, 2), (2, 3)), ((0, 2), (1, 2), (2, 3))
HOST = (5, ((0, 1), (1, 2), (1, 3), (3, 4)))
SPREAD = ((0, 1), (1, 2, 3), (3, 4), (4,), (0, 1, 3))
ORDER = (1, 2, 0, 3, 4)
# Dyeings of the twig with three dyes.
DYEING = (0, 1, 2, 1, 0)
# A thicket of the house, a family of the twig, a table over five places.
THICKET = ((0,), (1,), (2, 3))
FAMILY = ((1, 1, 2, 0), (2, 0, 1, 1), (0, 2, 1, 1), (1, 0, 1, 2))
TABLE = tuple(x * x % 23 for x in range(32))
STRETCHES = ((0, 2), (1, 3), (3, 3), (-BIG, -5), (BIG - 1, BIG))

ERRORS = {
    "web": errors.InvalidWeb, "other_web": errors.InvalidWeb, "place": errors.InvalidPlace,
    "other_place": errors.InvalidPlace, "tie": errors.InvalidTie, "lot": errors.InvalidLot,
    "other_lot": errors.InvalidLot, "row": errors.InvalidRow, "order": errors.InvalidRow,
    "number": errors.InvalidCount, "tree": errors.InvalidTree, "other_tree": errors.InvalidTree,
    "branch": errors.InvalidBranch, "other_branch": errors.InvalidBranch, "host": errors.InvalidHost,
    "spread": errors.InvalidSpread, "spot": errors.InvalidPlace, "other_order": errors.InvalidRow,
    "dyes": errors.InvalidCount, "dyeing": errors.InvalidDyeing, "other_dyeing": errors.InvalidDyeing,
    "dye": errors.InvalidDye, "weights": errors.InvalidWeights, "missing": errors.InvalidTies,
    "lots": errors.InvalidLot, "thicket": errors.InvalidThicket, "stretches": errors.InvalidStretches,
    "table": errors.InvalidTables, "tables": errors.InvalidTables,
}

WRONG_WEBS = ODD_VALUES + [
    (), (5,), 5, (5, [], ()), [5, ()], (5, []), (5, None), (0, ()), (13, ()), (True, ()), ("5", ()), (None, ()),
    (BIG, ()), (5, ((1, 0),)), (5, ((0, 0),)), (5, ((0, 5),)), (5, ((0, 1), (0, 1))), (5, ((0, 2), (0, 1))),
    (5, ([0, 1],)), (5, ((0, True),)), (5, ((0, BIG),)), (5, (deep(tuple),)), (5, deep(list)), "e:ab",
]
WRONG_PLACES = ODD_VALUES + [5, (0,), "2", (2,), [2], HOUSE]
WRONG_LOTS = ODD_VALUES + [
    (1, 0), (0, 0), (0, 5), (0, 1, 1), [0, 2], (0, True), (0, (1,)), (0, 2, None), (0, 1, 2, 3, 4, 5), HOUSE, 0,
]
WRONG_ROWS = ODD_VALUES + [
    (), (0,), (0, 1, 2, 3, 4, 5), (0, 1, 2, 3, 3), (0, 1, 2, 3, 5), (-1, 0, 1, 2, 3), (False, 1, 2, 3, 4),
    (0, True, 2, 3, 4), [0, 1, 2, 3, 4], [3, 2, 1, 0], (0, 1, 2, 3, BIG), (0, 1, 2, 3, (4,)), (0, 1, 2, 3, "e"), 0,
    (0, 1, 2, 3, None), (0, 1, 2, 3, deep(list)), HOUSE, (1, 2, 3), (0, 1, 4), (0, 1, 2, 3, 4, 0),
]
WRONG_TIES = ODD_VALUES + [
    (0, 2), (2, 4), (1, 0), (3, 0), (0, 0), [0, 1], (0, True), (False, 1), (0, 1, 4), (0,), (), (4, 5), 0, HOUSE,
    ((0, 1),), (0, 5), (True, 2), (1, 4, None),
]
# Rows of all places of the twig that are no leaving order.
NO_ORDERS = [(0, 1, 2, 3, 4), (1, 0, 2, 3, 4), (1, 3, 0, 2, 4), (2, 1, 3, 4, 0), (4, 1, 0, 3, 2)]
NUMBERS = (12, 13, BIG)
WRONG_NUMBERS = [value for value in ODD_VALUES if value not in NUMBERS or value is True] + [
    (), (1,), "1", [1], -2, HOUSE, TREE]
WRONG_TREES = ODD_VALUES + [
    (), 0, [], [(0, 1), (0, 2), (2, 3)], ((0, 1), (0, 2)), ((0, 1), (0, 2), (1, 2)), ((0, 2), (0, 1), (2, 3)),
    ((0, 1), (0, 1), (2, 3)), ((0, 1), (0, 2), (0, 3), (1, 2)), ((0, 1), (0, 2), (0, 4)), ((0, 1), (0, 2), (3, 2)),
    ((1, 0), (0, 2), (2, 3)), ((0, 0), (0, 2), (2, 3)), ((0, 1), (0, 2), [2, 3]), ((0, 1), (0, 2), (2, 3, 3)),
    ((0, 1), (0, 2), (2,)), ((False, 1), (0, 2), (2, 3)), ((0, True), (0, 2), (2, 3)), ((0, 1), (0, 2), (2, BIG)),
    ((-1, 1), (0, 2), (2, 3)), ((0, 1), (0, 2), (2, None)), ((0, 1), (0, 2), ("2", "3")), ((0, 1), (0, 2), None),
    ((0, 1), (0, 2), deep(tuple)), ((0, 1), (0, 2), deep(list)), (TREE,), HOUSE, ((0, 1), (0, 2), (2, 3), (2, 3)),
    "abacde", ((0, 1), (2, 3)), ((0, 1), (1, 2), (2, 3), (3, 4)), ((0, 1), (0, 2), (1, 2), (2, 3)),
]
WRONG_BRANCHES = ODD_VALUES + [
    (), 0, (0,), (0, 4), (3, 4), (1, 0), (0, 0), (3, 3), [0, 1], (0, True), (False, 1), (0, 1, 2), (-1, 2), (0, BIG),
    (0, None), ("0", "1"), ((0, 1),), TREE, HOUSE, (0, (1,)), (deep(list), 1),
]
WRONG_HOSTS = WRONG_WEBS + [
    HOUSE, FAN, (1, ((0, 1),)), (2, ()), (5, TWIG[1][1:]), (5, ((0, 1), (0, 2), (1, 2), (3, 4))), (12, ()), (HOST,),
    (4, ((0, 1), (0, 3), (1, 2), (2, 3))), (5, [*HOST[1]]), [*HOST], (HOST, SPREAD), (4, HOST[1]), (6, HOST[1]),
]
WRONG_SPREADS = ODD_VALUES + [
    (), 0, [*SPREAD], ((),), (*SPREAD, ()), ((0, 2),), (*SPREAD, (0, 3)), (*SPREAD, (2, 3)), (*SPREAD, (1, 0)),
    (*SPREAD, (5,)), (*SPREAD, (-1,)), (*SPREAD, (0, 0)), (*SPREAD, [0]), (*SPREAD, 0), (*SPREAD, None), (0, 1),
    (*SPREAD, (True,)), (*SPREAD, (0, True)), (*SPREAD, (BIG,)), (*SPREAD, "a"), (*SPREAD, deep(tuple)), HOST,
    ((0,),) * 13, (*SPREAD, *SPREAD, (0,), (1,), (2,)), (HOST, SPREAD), deep(list), "abc", ((0, 4),), ((0, 1, 4),),
]
WRONG_DYES = [value for value in ODD_VALUES if value not in (12, 13)] + [(), (3,), "3", [3], -2, 1001, 2000, HOUSE]
WRONG_DYEINGS = ODD_VALUES + [
    (), 0, [*DYEING], (0, 0, 2, 1, 0), (0, 1, 0, 1, 0), (0, 1, 2, 1, 1), (0, 1, 2, 3, 0), (0, 1, 2, 1, -1), (0, 1, 2, 1),
    (*DYEING, 0), (0, True, 2, 1, 0), (False, 1, 2, 1, 0), (0, 1, 2, 1, None), (0, 1, 2, 1, (0,)), (0, 1, 2, BIG, 0),
    (0, 1, 2, 1, "0"), "01210", (DYEING,), (0, 1, 2, 1, deep(list)), HOUSE, 3,
]
WRONG_DYE = ODD_VALUES + [3, 4, (), (0,), [0], "2", -2, HOUSE, DYEING]
WRONG_WEIGHTS = ODD_VALUES + [
    (), 0, [1, 2, 3, 4, 5], (1, 2, 3, 4), (1, 2, 3, 4, 5, 6), (1, 2, 3, 4, -1), (1, 2, 3, 4, 1000001), (1, 2, True, 4, 5),
    (1, 2, 3, 4, False), (1, 2, 3, 4, None), (1, 2, 3, 4, BIG), (1, 2, 3, 4, "5"), (1, 2, 3, 4, (5,)), "12345", HOUSE,
    ((1, 2, 3, 4, 5),), (1, 2, 3, deep(tuple), 5),
]
WRONG_MISSING = ODD_VALUES + [
    0, [], [(0, 2)], ((0, 1),), ((0, 2), (0, 3)), ((1, 3), (0, 2)), ((0, 2), (0, 2)), ((2, 0),), ((2, 2),), ((2, 5),),
    ([0, 2],), ((0, 2, 3),), ((0,),), ((),), (0, 2), ((0, 2), None), ((0, 2), 3), ((False, 2),), ((0, BIG),), ((-1, 2),),
    ((0, 2), (1, 3), (2, 4), (3, 4), (4, 5)), ((0, 2), deep(list)), (deep(tuple),), "ac", HOUSE, ((0, "2"),), (((0, 2),),),
]
WRONG_SETS_OF_LOTS = ODD_VALUES + [
    0, [], [(0, 2)], ((1,), (0,)), ((0,), (0,)), ((0, 1), (0,)), ((0,), ()), ((), ()), ((1, 0),), ((0, 0),), ((0, 5),),
    ([0],), ((0,), None), ((0,), 1), ((0, True),), ((BIG,),), ((-1,),), (0, 1), ((0,), [1]), "ab", HOUSE, (((0,),),),
    ((0,), deep(list)), ((0,), deep(tuple)), ((0, "1"),),
]
WRONG_THICKETS = ODD_VALUES + [
    (), 0, [*THICKET], ((0,), (2,)), ((0,), (1,), (3,)), ((1,), (0,)), ((0,), (0,)), ((), (0,)), ((),), ((0, 2),),
    ((0, 1), (2, 4)), ((0,), (1,), [2, 3]), ((0,), (1,), (3, 2)), ((0,), (5,)), ((0,), (1,), None), ((0,), 1), (0, 1),
    ((0,), (True,)), ((0,), (BIG,)), ((-1,), (0,)), ((0,), (1,), deep(tuple)), ((0,), (1,), deep(list)), "ab", HOUSE,
    ((0, 0), (1,)), ((0,), (1,), (2, 3), (4,)), (((0,),),), ((0,), ("1",)),
]
WRONG_STRETCHES = ODD_VALUES + [
    (), 0, [*STRETCHES], ((0, 2), [1, 3]), ((0, 2), (3, 1)), ((0, 2), (1,)), ((0, 2), (1, 2, 3)), ((0, 2), ()), (0, 2),
    ((0, 2), None), ((0, 2), 1), ((0, True),), ((False, 1),), ((0, None),), ((None, 0),), (("0", "1"),), ((0, "1"),),
    (("a", "b"),), ((BIG, -BIG),), ((0, 2), (BIG, BIG - 1)), ((0, 1),) * 13, "ab", HOUSE, ((0, (1,)),), (((0, 1),),),
    ((0, 1), deep(tuple)), ((0, deep(list)),), (([0], [1]),), (((0,), (1,)),),
]
WRONG_TABLES = ODD_VALUES + [
    (), 0, [*FAMILY], FAMILY[:3], (*FAMILY, (1, 0)), (*FAMILY[:3], [1, 0, 1, 2]), (*FAMILY[:3], (1, 0, 1)),
    (*FAMILY[:3], (1, 0, 1, 2, 0)), (*FAMILY[:3], (1, 0, 1, -1)), (*FAMILY[:3], (1, 0, 1, 1000001)),
    (*FAMILY[:3], (0, 0, 0, 0)), (*FAMILY[:3], (1, 0, 1, True)), (*FAMILY[:3], (False, 0, 1, 2)), (*FAMILY[:3], None),
    (*FAMILY[:3], (1, 0, 1, BIG)), (*FAMILY[:3], (1, 0, 1, "2")), (*FAMILY[:3], (1, 0, 1, (2,))), (*FAMILY[:3], ()),
    (*FAMILY[:3], 4), (*FAMILY[:3], "1012"), (*FAMILY[:3], deep(list)), (deep(tuple), *FAMILY[1:]), (FAMILY,), HOUSE,
    TABLE, (*FAMILY[:3], (1, 0, 1, None)),
]
WRONG_TABLE = ODD_VALUES + [
    (), 0, [*TABLE], TABLE[:31], (*TABLE, 0), (0,) * 32, (*TABLE[:31], -1), (*TABLE[:31], 1001), (*TABLE[:31], True),
    (*TABLE[:31], None), (*TABLE[:31], BIG), (*TABLE[:31], "1"), (*TABLE[:31], (1,)), (*TABLE[:31], deep(list)), (TABLE,),
    TABLE[:16], TABLE * 2, HOUSE, FAMILY, (False,) + TABLE[1:],
]
WRONG_VALUES = [
    (0, 1, 0, 1), (0, 1, 0, 1, 0, 1), (0, 1, 0, 1, 2), (0, 1, 0, 1, -1), (0, 1, 0, 1, True), (False, 1, 0, 1, 0),
    [0, 1, 0, 1, 0], (0, 1, 0, 1, None), (0, 1, 0, 1, (0,)), (0, 1, 0, 1, "0"), (0, 1, 0, 1, BIG), "01010",
]
WRONG = {
    "web": WRONG_WEBS, "other_web": WRONG_WEBS, "place": WRONG_PLACES, "other_place": WRONG_PLACES, "tie": WRONG_TIES,
    "lot": WRONG_LOTS, "other_lot": WRONG_LOTS, "row": WRONG_ROWS, "order": WRONG_ROWS + NO_ORDERS,
    "number": WRONG_NUMBERS, "tree": WRONG_TREES, "other_tree": WRONG_TREES, "branch": WRONG_BRANCHES,
    "other_branch": WRONG_BRANCHES, "host": WRONG_HOSTS, "spread": WRONG_SPREADS, "spot": WRONG_PLACES,
    "other_order": WRONG_ROWS + NO_ORDERS, "dyes": WRONG_DYES, "dyeing": WRONG_DYEINGS, "other_dyeing": WRONG_DYEINGS,
    "dye": WRONG_DYE, "weights": WRONG_WEIGHTS, "missing": WRONG_MISSING, "lots": WRONG_SETS_OF_LOTS,
    "thicket": WRONG_THICKETS, "stretches": WRONG_STRETCHES, "table": WRONG_TABLE, "tables": WRONG_TABLES,
}
ROUNDS = (bare_rounds.ring_told, bare_rounds.ties_across, bare_rounds.bared)
# The rows of these must be leaving orders.
ORDERED = (dyes.dyed_back, covers.apart_along)


def wrong_values(function, names, right, name):
    """Wrong arguments for the parameter of the function, if all else is as in the list of calls."""
    if name == "number" and function is joining.power:
        return WRONG_NUMBERS + [0, 12, 13, BIG]
    if name == "other_lot" and function is joining.glued:
        return WRONG_LOTS + [(), (0,), (1, 2), (2, 4), (0, 1, 2), (0, 4)]
    if name == "lot" and function in (webs.inner, subtrees.common_spots):
        return WRONG_LOTS + [()]
    if name == "other_place":
        return WRONG_PLACES + [right[names.index("place")]]
    if name == "dye":
        return WRONG_DYE + [right[names.index("dyeing")][right[names.index("place")]]]
    if name == "row" and function is tables.weight_at:
        return WRONG_ROWS + WRONG_VALUES
    if name == "row" and function is stretches.row_stretches:
        return WRONG_ROWS + [(0, 2, 1, 3), (0, 1, 3, 2), (3, 0, 1, 2), (0, 1, 2, 2), (0, 1, 2, 3, 4)]
    if name == "row" and function in ORDERED:
        return WRONG_ROWS + NO_ORDERS
    if name == "row":
        # A row of four places is right for a round; one that does not go round is right for the others.
        return WRONG_ROWS + ([(0, 1, 2, 4), (0, 1, 2, 3, 4), (0, 1, 3, 4)] if function in ROUNDS else [(0, 1, 2, 3)])
    return WRONG[name]

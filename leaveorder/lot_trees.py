"""Trees of whole lots, all lot trees by number, and their exchanges."""

from itertools import combinations

from leaveorder.checks import check_number, check_other_place, check_place, check_web
from leaveorder.errors import InvalidBranch, InvalidTree, NotTree, Refused, TooMany
from leaveorder.forms import is_ascending, is_list, is_pair_form, is_tuple
from leaveorder.joints import count_trees, index_of_tree, joints_of, tree_at
from leaveorder.leaving import check_leaving
from leaveorder.masks import full_mask, lot_of, mask_of, near_masks, piece_with, shortest_way
from leaveorder.webs import all_pairs
from leaveorder.whole_lots import whole_lots

MOST_LISTED = 6


def is_lot_tree(web, value):
    """Whether any value is a lot tree of the web."""
    check_web(web)
    return is_lot_tree_of(web, wholes_of(web), value)


def first_tree(web):
    """The first lot tree."""
    return nth_tree(web, 0)


def meets(web, tree):
    """The list of the meets of the branches of the tree."""
    wholes = checked_wholes(web, tree)
    return [lot_of(meet_of(wholes, branch)) for branch in tree]


def tree_sum(web, tree):
    """The sum of the numbers of places of the meets of the tree."""
    return sum([len(meet) for meet in meets(web, tree)])


def split_place(web, tree):
    """The least place whose whole lots are not joined along branches between them; None of a lot tree."""
    wholes = checked_wholes(web, tree)
    return first_split(web, wholes, tree)


def way_meets(web, tree, place, other_place):
    """The list of the meets on the shortest way from a whole lot with the place to one with the other place."""
    wholes = checked_wholes(web, tree)
    check_place(web, place)
    check_other_place(web, place, other_place)
    check_lot_tree(web, wholes, tree)
    # The tree is read as a web here, the places of which are the whole lots.
    tree_web = (len(wholes), tree)
    starts = mask_of([at for at, whole in enumerate(wholes) if whole >> place & 1])
    ends = mask_of([at for at, whole in enumerate(wholes) if whole >> other_place & 1])
    way = shortest_way(near_masks(tree_web), full_mask(tree_web), starts, ends)
    return [lot_of(meet_of(wholes, step)) for step in zip(way, way[1:])]


def tree_count(web):
    """How many lot trees there are."""
    many, joints = checked_joints(web)
    return count_trees(many, joints, [], list(joints))


def trees(web):
    """The list of all lot trees, ascending."""
    many, joints = checked_joints(web)
    if many > MOST_LISTED:
        raise TooMany(MOST_LISTED)
    wholes = wholes_of(web)
    return [tree for tree in combinations(joints, len(wholes[1:])) if is_lot_tree_of(web, wholes, tree)]


def nth_tree(web, number):
    """The lot tree with this index; None if there are not so many."""
    check_web(web)
    check_number(number)
    many, joints = checked_joints(web)
    return tree_at(many, joints, number)


def tree_number(web, tree):
    """The index of the lot tree."""
    wholes = checked_wholes(web, tree)
    check_lot_tree(web, wholes, tree)
    return index_of_tree(len(wholes), joints_of(near_masks(web), wholes), tree)


def branches(web):
    """The ascending list of the branches that stand in some lot tree."""
    return list(checked_joints(web)[1])


def fixed_branches(web):
    """The ascending list of the branches that stand in all lot trees."""
    joints = checked_joints(web)[1]
    wholes = wholes_of(web)
    found = [meet_of(wholes, branch) for branch in joints]
    # An exchange takes a branch with the same meet: so what stands in all has a meet of its own.
    return [branch for branch in joints if found.count(meet_of(wholes, branch)) == 1]


def tree_exchanges(web, tree):
    """The ascending list of all exchanges of the lot tree."""
    wholes = checked_wholes(web, tree)
    check_lot_tree(web, wholes, tree)
    return exchanges_to(wholes, tree, all_pairs(len(wholes)))


def tree_exchanged(web, tree, branch, other_branch):
    """The lot tree that comes of this exchange."""
    wholes = checked_wholes(web, tree)
    check_branch(wholes, branch)
    check_branch(wholes, other_branch)
    check_lot_tree(web, wholes, tree)
    if not is_exchange(wholes, tree, branch, other_branch):
        raise Refused("the two branches are no exchange of the tree")
    return with_exchange(tree, branch, other_branch)


def tree_row(web, tree, other_tree):
    """A list of as few exchanges as can be that lead from the lot tree to the other one."""
    wholes = checked_wholes(web, tree)
    check_tree(wholes, other_tree)
    check_lot_tree(web, wholes, tree)
    check_lot_tree(web, wholes, other_tree)
    row = []
    while tree != other_tree:
        # Each branch that is still to come can come for one that is still to go: so each exchange brings one nearer.
        steps = [step for step in exchanges_to(wholes, tree, other_tree) if step[0] not in other_tree]
        row.append(steps[0])
        tree = with_exchange(tree, steps[0][0], steps[0][1])
    return row


def is_tree_row(web, tree, other_tree, value):
    """Whether any value is a list of exchanges that lead from the lot tree to the other one."""
    wholes = checked_wholes(web, tree)
    check_tree(wholes, other_tree)
    if not is_lot_tree_of(web, wholes, tree) or not is_lot_tree_of(web, wholes, other_tree) or not is_list(value):
        return False
    for step in value:
        if not is_step_form(wholes, step) or not is_exchange(wholes, tree, step[0], step[1]):
            return False
        tree = with_exchange(tree, step[0], step[1])
    return tree == other_tree


def wholes_of(web):
    """The masks of the whole lots, in the sequence of whole_lots."""
    return [mask_of(lot) for lot in whole_lots(web)]


def meet_of(wholes, branch):
    """The mask of the meet of the branch."""
    return wholes[branch[0]] & wholes[branch[1]]


def checked_wholes(web, tree):
    """The masks of the whole lots of what is a web, and the tree a joining tree of them."""
    check_web(web)
    wholes = wholes_of(web)
    check_tree(wholes, tree)
    return wholes


def checked_joints(web):
    """The number of whole lots, and the joints, of what is a leaving web."""
    check_web(web)
    check_leaving(web)
    wholes = wholes_of(web)
    return len(wholes), joints_of(near_masks(web), wholes)


def check_tree(wholes, tree):
    """Raise InvalidTree unless this is a joining tree of the whole lots."""
    if not is_joining_tree(len(wholes), tree):
        raise InvalidTree("a joining tree of the whole lots of the web is wanted")


def check_branch(wholes, branch):
    """Raise InvalidBranch unless this is a branch."""
    if not is_pair_form(len(wholes), branch):
        raise InvalidBranch("a tuple (i, j) of indexes of whole lots, i less than j, is wanted")


def check_lot_tree(web, wholes, tree):
    """Raise NotTree with the place that splits the joining tree, if there is one."""
    place = first_split(web, wholes, tree)
    if place is not None:
        raise NotTree(place)


def is_joining_tree(many, value):
    """Whether the value is a joining tree of so many whole lots."""
    if not is_tuple(value) or len(value) != many - 1 or not all([is_pair_form(many, branch) for branch in value]):
        return False
    return is_ascending(value) and is_joined(many, value)


def is_joined(many, tree):
    """Whether one comes along the branches from each of so many whole lots to each other one."""
    every = full_mask((many, tree))
    return piece_with(near_masks((many, tree)), every, 0) == every


def is_lot_tree_of(web, wholes, value):
    """Whether the value is a lot tree of the web with these whole lots."""
    return is_joining_tree(len(wholes), value) and first_split(web, wholes, value) is None


def first_split(web, wholes, tree):
    """The least place whose whole lots are not joined along branches of the joining tree; None without one."""
    found = [meet_of(wholes, branch) for branch in tree]
    for place in range(web[0]):
        # No branches of a tree go round: some whole lots are joined if one branch fewer lies between them.
        having = len([whole for whole in wholes if whole >> place & 1])
        if len([meet for meet in found if meet >> place & 1]) != having - 1:
            return place
    return None


def is_step_form(wholes, value):
    """Whether the value is a tuple of two branches."""
    return is_tuple(value) and len(value) == 2 and all([is_pair_form(len(wholes), branch) for branch in value])


def is_exchange(wholes, tree, branch, other_branch):
    """Whether these branches are an exchange of the lot tree."""
    if branch not in tree or other_branch in tree or meet_of(wholes, branch) != meet_of(wholes, other_branch):
        return False
    return is_joined(len(wholes), with_exchange(tree, branch, other_branch))


def with_exchange(tree, branch, other_branch):
    """The tree without the branch and with the other one."""
    return tuple(sorted([*[held for held in tree if held != branch], other_branch]))


def exchanges_to(wholes, tree, found):
    """The ascending list of the exchanges of the lot tree the other branch of which is one of the ascending found."""
    return [(branch, other) for branch in tree for other in found if is_exchange(wholes, tree, branch, other)]

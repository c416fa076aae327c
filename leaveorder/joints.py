"""How many lot trees have some branches, and lot trees by number.

The branches of a lot tree with one and the same meet join the pieces without it that the others of their whole lots lie
in, and join them to a tree by themselves. So these pieces are *knots*, for each meet its own ones; and where the first
one of each meet is made the knot 0, the lot trees are just the trees that join all knots, each branch joining two.
The *joints* of a web are a dict that has for each branch of some lot tree its two knots; the branches come ascending.
"""

from leaveorder.masks import least_of, piece_with
from leaveorder.webs import all_pairs


def joints_of(near, wholes):
    """The joints of a leaving web; wholes are the masks of its whole lots, in the sequence of whole_lots."""
    first, knots, joints = {}, {}, {}
    for i, j in all_pairs(len(wholes)):
        meet = wholes[i] & wholes[j]
        sides = [piece_beside(near, meet, wholes[i]), piece_beside(near, meet, wholes[j])]
        if sides[0] != sides[1]:
            joints[(i, j)] = tuple([knot_of(first, knots, meet, side) for side in sides])
    return joints


def knot_of(first, knots, meet, side):
    """The knot of this piece without the meet: 0 for the first one of each meet, else one of its own."""
    if first.setdefault(meet, side) == side:
        return 0
    return knots.setdefault((meet, side), len(knots) + 1)


def piece_beside(near, meet, whole):
    """The mask of the piece without the meet that the other places of the whole lot lie in."""
    return piece_with(near, ~meet, least_of(whole & ~meet))


def count_trees(many, joints, taken, free):
    """How many lot trees, of so many whole lots, have all the taken branches and else free ones alone.

    If the taken branches do not go round, there must be one.
    """
    group = list(range(many))
    for branch in taken:
        old, new = [group[knot] for knot in joints[branch]]
        if old == new:
            return 0
        group = [new if at == old else at for at in group]
    index = {at: place for place, at in enumerate(sorted(set(group)))}
    rows = [[0] * len(index) for _ in index]
    for branch in free:
        x, y = [index[group[knot]] for knot in joints[branch]]
        rows[x][x] += 1
        rows[y][y] += 1
        rows[x][y] -= 1
        rows[y][x] -= 1
    # Kirchhoff: the determinant of these rows, one row and its column left out, counts the trees.
    return determinant([row[1:] for row in rows[1:]])


def determinant(rows):
    """The determinant of rows that are made as above; 1 of none."""
    last = 1
    while rows:
        # Bareiss: what comes are determinants of some of the rows and columns, so that the division leaves nothing
        # over. As some tree joins all knots, those of the first rows and columns, by which it divides, are above 0.
        head = rows[0]
        rows = [[(row[at] * head[0] - row[0] * head[at]) // last for at in range(1, len(row))] for row in rows[1:]]
        last = head[0]
    return last


def tree_at(many, joints, number):
    """The lot tree with this index; None if there are not so many."""
    if number >= count_trees(many, joints, [], list(joints)):
        return None
    tree = []
    left = list(joints)
    while left:
        # The trees with the least branch that is left stand ahead of those without it.
        branch, left = left[0], left[1:]
        count = count_trees(many, joints, [*tree, branch], left)
        if number < count:
            tree.append(branch)
        else:
            number = number - count
    return tuple(tree)


def index_of_tree(many, joints, tree):
    """The index of the lot tree."""
    number = 0
    left = list(joints)
    while left:
        branch, left = left[0], left[1:]
        if branch not in tree:
            lesser = [other for other in tree if other < branch]
            number += count_trees(many, joints, [*lesser, branch], left)
    return number

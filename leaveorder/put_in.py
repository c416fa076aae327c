"""What is put in when places leave in the sequence of a row, and the rows that put in least.

When a place leaves, its neighbours that are still there are tied with one another. near is what near_masks tells.
"""

from leaveorder.masks import lot_of


def put_in_by(near, row):
    """The tuple (ascending list of the ties put in, greatest number of neighbours of a place that leaves)."""
    near = list(near)
    ties, widest = [], 0
    left = (1 << len(near)) - 1
    for place in row:
        left = left & ~(1 << place)
        beside = near[place] & left
        widest = max(widest, len(lot_of(beside)))
        for other in lot_of(beside):
            fresh = beside & ~near[other] & ~(1 << other)
            near[other] |= fresh
            ties.extend([(other, more) for more in lot_of(fresh) if other < more])
    return (sorted(ties), widest)


def least_row(near, told_behind):
    """The tuple (least number, row) of the rows of all places.

    told_behind(told, nears, place) tells the number behind a place, if it is told ahead of it; nears are the masks of
    the neighbours at that time. A lesser number ahead never leads to a greater one.
    """
    nears = nears_behind(near)
    best, last = [0] * len(nears), [0] * len(nears)
    for gone in range(1, len(nears)):
        steps = []
        for place in lot_of(gone):
            ahead = gone & ~(1 << place)
            steps.append((told_behind(best[ahead], nears[ahead], place), place))
        best[gone], last[gone] = min(steps)
    row = []
    gone = len(nears) - 1
    while gone:
        row.append(last[gone])
        gone = gone & ~(1 << last[gone])
    return (best[-1], tuple(row[::-1]))


def puts_behind(told, nears, place):
    """So many ties are put in when the place has left, too."""
    lot = lot_of(nears[place])
    return told + len([1 for at, x in enumerate(lot) for y in lot[at + 1:] if not nears[x] >> y & 1])


def width_behind(told, nears, place):
    """So many neighbours at most had the places that left, and this one."""
    return max(told, len(lot_of(nears[place])))


def nears_behind(near):
    """The list that has, for each mask, the masks of the neighbours of all places when its places have gone.

    In whichever sequence they went, the ties are the same ones.
    """
    nears = [list(near)]
    for place in range(len(near)):
        # What is added are the masks with this place and none above it.
        nears = nears + [near_behind(told, place) for told in nears]
    return nears


def near_behind(near, place):
    """The masks of the neighbours of all places when the place has left; it has none itself."""
    behind = list(near)
    behind[place] = 0
    for other in lot_of(near[place]):
        behind[other] = (near[other] | near[place]) & ~(1 << other | 1 << place)
    return behind

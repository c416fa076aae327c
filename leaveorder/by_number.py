"""Rows by number: rows of things, each once, in which what may come next hangs on which ones stand ahead alone.

The things are 0 to count - 1. nexts is a list that has, for each mask of the things ahead, the mask of those that may
come next; count is told by its length. The rows stand ascending, as Python orders tuples.
"""

from leaveorder.masks import lot_of


def ways_to_end(nexts):
    """The list that has, for each mask of the things ahead, in how many ways all others can follow."""
    ways = [0] * len(nexts)
    ways[-1] = 1
    for ahead in reversed(range(len(nexts) - 1)):
        ways[ahead] = sum([ways[ahead | 1 << thing] for thing in lot_of(nexts[ahead])])
    return ways


def ways_to_begin(nexts):
    """The list that has, for each mask, in how many ways just its things can come first."""
    ways = [0] * len(nexts)
    ways[0] = 1
    for ahead, free in enumerate(nexts):
        if ways[ahead]:
            for thing in lot_of(free):
                ways[ahead | 1 << thing] += ways[ahead]
    return ways


def row_at(nexts, number):
    """The row with this index; None if there are not so many."""
    ways = ways_to_end(nexts)
    if number >= ways[0]:
        return None
    row = []
    ahead = 0
    while ahead != len(nexts) - 1:
        for thing in lot_of(nexts[ahead]):
            count = ways[ahead | 1 << thing]
            if number < count:
                break
            number = number - count
        row.append(thing)
        ahead |= 1 << thing
    return tuple(row)


def number_of(nexts, row):
    """The index of the row."""
    ways = ways_to_end(nexts)
    number, ahead = 0, 0
    for thing in row:
        lesser = nexts[ahead] & ((1 << thing) - 1)
        number += sum([ways[ahead | 1 << other] for other in lot_of(lesser)])
        ahead |= 1 << thing
    return number

"""Webs of stretches of a line: stretches, apart threes, claws, lot rows and line orders."""

from itertools import combinations

from leaveorder.by_number import row_at, ways_to_end
from leaveorder.checks import check_lot, check_number, check_web
from leaveorder.errors import InvalidRow, InvalidStretches, NotEven, NotStretched
from leaveorder.forms import MOST_PLACES, is_int, is_row_form, is_tuple, is_unlike_places
from leaveorder.leaving import check_leaving, is_leaving
from leaveorder.masks import full_mask, is_apart_mask, lot_of, mask_of, near_masks, shortest_way
from leaveorder.webs import all_pairs
from leaveorder.whole_lots import whole_lots


def web_of_stretches(stretches):
    """The web of which these are stretches."""
    if not is_stretches_form(stretches):
        raise InvalidStretches("a tuple of 1 to 12 tuples (left, right) is wanted, left at most right")
    return web_met(stretches)


def is_stretched(web, value):
    """Whether any value is a tuple of stretches of the web."""
    check_web(web)
    return is_stretches_form(value) and web_met(value) == web


def apart_three(web):
    """The first apart three; None if there is none."""
    check_web(web)
    for lot in combinations(range(web[0]), 3):
        if clear_ways(web, lot) is not None:
            return lot
    return None


def is_apart_three(web, lot):
    """Whether the lot is an apart three."""
    return apart_ways(web, lot) is not None


def is_apart_ways(web, lot, value):
    """Whether any value is a tuple of three clear ways for the three places of the lot."""
    check_web(web)
    check_lot(web, lot)
    if len(lot) != 3 or not is_tuple(value) or len(value) != 3:
        return False
    near = near_masks(web)
    return all([is_clear_way(near, start, end, third, way) for (start, end, third), way in zip(ends_of(lot), value)])


def apart_ways(web, lot):
    """A tuple of three clear ways for the three places of the lot; None if it is no apart three."""
    check_web(web)
    check_lot(web, lot)
    return clear_ways(web, lot) if len(lot) == 3 else None


def claw(web):
    """The first claw; None if there is none."""
    check_web(web)
    near = near_masks(web)
    for place in range(web[0]):
        for lot in combinations(list(lot_of(near[place])), 3):
            if is_apart_mask(near, mask_of(lot)):
                return (place, lot)
    return None


def is_lot_row(web, value):
    """Whether any value is a lot row of the web."""
    check_web(web)
    return is_lot_row_form(whole_lots(web), value)


def is_line_order(web, value):
    """Whether any value is a line order of the web."""
    check_web(web)
    return is_row_form(web[0], value) and is_line_row(near_masks(web), value)


def is_even_order(web, value):
    """Whether any value is an even order of the web."""
    return is_line_order(web, value) and is_line_row(near_masks(web), value[::-1])


def stretches(web):
    """The stretches by the first lot row."""
    check_stretched(web)
    return stretches_by(web, nth_lot_row(web, 0))


def row_stretches(web, row):
    """The stretches by this lot row."""
    if not is_lot_row(web, row):
        raise InvalidRow("a lot row of the web is wanted")
    return stretches_by(web, row)


def lot_row_count(web):
    """How many lot rows there are."""
    check_web(web)
    # A web that is no leaving one may have far more whole lots than places, but no lot row.
    return ways_to_end(lot_row_nexts(web))[0] if is_leaving(web) else 0


def nth_lot_row(web, number):
    """The lot row with this index; None if there are not so many."""
    check_web(web)
    check_number(number)
    return row_at(lot_row_nexts(web), number) if is_leaving(web) else None


def line_order_count(web):
    """How many line orders there are."""
    check_web(web)
    return ways_to_end(line_nexts(web))[0]


def nth_line_order(web, number):
    """The line order with this index; None if there are not so many."""
    check_web(web)
    check_number(number)
    return row_at(line_nexts(web), number)


def even_order(web):
    """The first even order."""
    check_stretched(web)
    told = claw(web)
    if told is not None:
        raise NotEven(told)
    return row_at(even_nexts(web), 0)


def check_stretched(web):
    """Raise InvalidWeb, NotLeaving or NotStretched unless the web has stretches."""
    check_web(web)
    check_leaving(web)
    three = apart_three(web)
    if three is not None:
        raise NotStretched(three)


def is_stretches_form(value):
    """Whether the value is a tuple of 1 to 12 stretches."""
    return is_tuple(value) and 1 <= len(value) <= MOST_PLACES and all([is_stretch(part) for part in value])


def is_stretch(value):
    """Whether the value is a stretch."""
    return is_tuple(value) and len(value) == 2 and is_int(value[0]) and is_int(value[1]) and value[0] <= value[1]


def web_met(rows):
    """The web in which two places are tied if their stretches meet."""
    pairs = all_pairs(len(rows))
    return (len(rows), tuple([(x, y) for x, y in pairs if rows[x][0] <= rows[y][1] and rows[y][0] <= rows[x][1]]))


def ends_of(lot):
    """The three tuples (lesser end, greater end, third place) of three places, in the sequence of their ways."""
    x, y, z = lot
    return ((x, y, z), (x, z, y), (y, z, x))


def clear_ways(web, lot):
    """A tuple of three clear ways for the three places of the lot; None if there are none."""
    near = near_masks(web)
    if not is_apart_mask(near, mask_of(lot)):
        return None
    ways = []
    for start, end, third in ends_of(lot):
        free = full_mask(web) & ~(near[third] | 1 << third)
        ways.append(shortest_way(near, free, 1 << start, 1 << end))
    return tuple(ways) if all(ways) else None


def is_clear_way(near, start, end, third, value):
    """Whether the value is a clear way from the start to the end, by the third place."""
    if not is_unlike_places(len(near), value) or value[:1] != (start,) or value[-1:] != (end,):
        return False
    if mask_of(value) & (near[third] | 1 << third):
        return False
    return all([near[place] >> behind & 1 for place, behind in zip(value, value[1:])])


def is_lot_row_form(wholes, value):
    """Whether the value is a lot row of these whole lots."""
    if not is_row_form(len(wholes), value):
        return False
    for place in sorted(set([place for lot in wholes for place in lot])):
        first, last = stretch_of(wholes, value, place)
        if last - first + 1 != len([lot for lot in wholes if place in lot]):
            return False
    return True


def stretch_of(wholes, row, place):
    """The first and the last position in the row at which a whole lot stands that has the place."""
    found = [at for at, index in enumerate(row) if place in wholes[index]]
    return (found[0], found[-1])


def stretches_by(web, row):
    """The stretches by the lot row."""
    wholes = whole_lots(web)
    return tuple([stretch_of(wholes, row, place) for place in range(web[0])])


def lot_row_nexts(web):
    """For each mask of whole lots of a leaving web that stand ahead, the mask of those that may come next."""
    wholes = [mask_of(lot) for lot in whole_lots(web)]
    had = [0]
    for whole in wholes:
        had = had + [places | whole for places in had]
    nexts = []
    for ahead in range(len(had)):
        # The masks stand such that what is told of all other lots stands at the same index from the end.
        begun = had[ahead] & had[-1 - ahead]
        others = lot_of(len(had) - 1 & ~ahead)
        nexts.append(mask_of([at for at in others if begun & ~wholes[at] == 0]))
    return nexts


def is_line_row(near, row):
    """Whether for any three places of the row, the first one tied with the third, it is tied with the second."""
    return all([not near[a] >> c & 1 or near[a] >> b & 1 for a, b, c in combinations(list(row), 3)])


def outs_of(web, ahead):
    """The list of the masks of the other neighbours of those places of the mask that have others."""
    near = near_masks(web)
    return [near[place] & ~ahead for place in lot_of(ahead) if near[place] & ~ahead]


def line_nexts(web):
    """For each mask of places that stand ahead in a line order, the mask of those that may come next."""
    nexts = []
    for ahead in range(full_mask(web) + 1):
        free = full_mask(web) & ~ahead
        for out in outs_of(web, ahead):
            free = free & out
        nexts.append(free)
    return nexts


def even_nexts(web):
    """For each mask of places that stand ahead in an even order, the mask of those that may come next."""
    near = near_masks(web)
    nexts = []
    for ahead, free in enumerate(line_nexts(web)):
        out = mask_of([place for mask in outs_of(web, ahead) for place in lot_of(mask)])
        nexts.append(mask_of([place for place in lot_of(free) if out & ~near[place] & ~(1 << place) == 0]))
    return nexts

"""Whole lots: the tied lots that are contained in no other tied lot."""

from leaveorder.checks import check_lot, check_order, check_place, check_web
from leaveorder.masks import full_mask, later_masks, lot_of, near_masks


def whole_lots(web):
    """The list of all whole lots, ascending as tuples."""
    check_web(web)
    return sorted([lot_of(whole) for whole in whole_masks(near_masks(web))])


def is_whole(web, lot):
    """Whether the lot is a whole lot."""
    check_web(web)
    check_lot(web, lot)
    return lot in whole_lots(web)


def lots_with(web, place):
    """The ascending list of the whole lots that have the place."""
    check_web(web)
    check_place(web, place)
    return [lot for lot in whole_lots(web) if place in lot]


def greatest_lot(web):
    """Of the whole lots with the most places the first one."""
    return min(whole_lots(web), key=lambda lot: (-len(lot), lot))


def tied_counts(web):
    """The tuple that has at index k the number of the tied lots of k places."""
    check_web(web)
    near = near_masks(web)
    counts = []
    # For each tied lot of so many places: the mask of the greater places that are tied with all of it.
    held = [full_mask(web)]
    while held:
        counts.append(len(held))
        held = [mask & near[place] & ~((1 << place) - 1) for mask in held for place in lot_of(mask)]
    return tuple(counts)


def heads(web, order):
    """The lot of the places that are, with their later neighbours in the order, a whole lot."""
    check_web(web)
    check_order(web, order)
    near = near_masks(web)
    wholes = whole_masks(near)
    behind = later_masks(near, order)
    return tuple(sorted([place for place, later in zip(order, behind) if (later | 1 << place) in wholes]))


def whole_masks(near):
    """The list of the masks of all whole lots, in no told sequence."""
    wholes = [0]
    for place, others in enumerate(near):
        # The place comes to the web of those ahead of it: a whole lot stays one unless all of it is tied with the
        # place; and the place, with what is tied with it of a whole lot, makes the new ones.
        grown = [whole & others | 1 << place for whole in wholes]
        wholes = [whole for whole in wholes if whole & ~others] + largest(grown)
    return wholes


def largest(masks):
    """The list of those of the masks that are contained in no other one, each once."""
    unlike = list({mask: True for mask in masks})
    return [mask for mask in unlike if not any([mask != other and mask & ~other == 0 for other in unlike])]

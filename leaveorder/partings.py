"""Lots that part two places, and when one lot crosses another one."""

from leaveorder.checks import check_lot, check_other_place, check_place, check_web
from leaveorder.errors import NotParting
from leaveorder.leaving import check_leaving
from leaveorder.masks import around, full_mask, lot_of, mask_of, near_masks, piece_with, pieces_of, shortest_way


def is_parting(web, lot, place, other_place):
    """Whether the lot parts the two places."""
    check_parted(web, lot, place, other_place)
    near = near_masks(web)
    return are_parted(pieces_of(near, full_mask(web) & ~mask_of(lot)), place, other_place)


def is_least_parting(web, lot, place, other_place):
    """Whether the lot is a least parting lot of the two places."""
    check_parted(web, lot, place, other_place)
    return are_parted(full_masks(near_masks(web), mask_of(lot)), place, other_place)


def least_in(web, lot, place, other_place):
    """A least parting lot of the two places that the lot contains."""
    check_parted(web, lot, place, other_place)
    near = near_masks(web)
    left = full_mask(web) & ~mask_of(lot)
    if place in lot or other_place in lot:
        raise NotParting(())
    way = shortest_way(near, left, 1 << place, 1 << other_place)
    if way:
        raise NotParting(way)
    # What is around the place's piece parts the two; of that, what is around the other one's piece then, is least.
    parting = around(near, piece_with(near, left, place))
    return lot_of(around(near, piece_with(near, full_mask(web) & ~parting, other_place)))


def partings_of(web, place, other_place):
    """The list of all least parting lots of the two places, in lot order."""
    check_web(web)
    check_place(web, place)
    check_other_place(web, place, other_place)
    near = near_masks(web)
    return in_lot_order([mask for mask in parting_masks(near)
                         if are_parted(full_masks(near, mask), place, other_place)])


def fewest_parting(web, place, other_place):
    """The first least parting lot of the two places, in lot order; None if they are tied."""
    found = partings_of(web, place, other_place)
    return found[0] if found else None


def partings(web):
    """The list of all least parting lots of the web, in lot order."""
    check_web(web)
    return in_lot_order(parting_masks(near_masks(web)))


def full_pieces(web, lot):
    """The list of the pieces without the lot in which each place of the lot has a neighbour."""
    check_web(web)
    check_lot(web, lot)
    return [lot_of(piece) for piece in full_masks(near_masks(web), mask_of(lot))]


def is_crossing(web, lot, other_lot):
    """Whether the lot parts two places of the other lot."""
    check_web(web)
    check_lot(web, lot)
    check_lot(web, other_lot)
    return are_crossed(pieces_of(near_masks(web), full_mask(web) & ~mask_of(lot)), mask_of(other_lot))


def first_crossing(web):
    """The first tuple of two least parting lots, in lot order, the one of which crosses the other; None without one."""
    found = partings(web)
    near, full = near_masks(web), full_mask(web)
    for at, lot in enumerate(found):
        left = pieces_of(near, full & ~mask_of(lot))
        for other in found[at + 1:]:
            if are_crossed(left, mask_of(other)):
                return (lot, other)
    return None


def part_counts(web):
    """The list of the tuples (lot, number) of all least parting lots, in lot order."""
    check_web(web)
    check_leaving(web)
    near = near_masks(web)
    return [(lot, len(full_masks(near, mask_of(lot))) - 1) for lot in partings(web)]


def check_parted(web, lot, place, other_place):
    """Raise the error of the first one of these that is wrong."""
    check_web(web)
    check_lot(web, lot)
    check_place(web, place)
    check_other_place(web, place, other_place)


def are_parted(masks, place, other_place):
    """Whether the places are in unlike ones of these masks of pieces."""
    return len([mask for mask in masks if mask & (1 << place | 1 << other_place)]) == 2


def are_crossed(masks, other):
    """Whether two places of the other mask are in unlike ones of these masks of pieces."""
    return len([mask for mask in masks if mask & other]) > 1


def full_masks(near, gone):
    """The masks of the pieces without the gone in which each place of the gone has a neighbour."""
    left = (1 << len(near)) - 1 & ~gone
    return [piece for piece in pieces_of(near, left) if around(near, piece) == gone]


def parting_masks(near):
    """The masks of all least parting lots of the web, each once."""
    full = (1 << len(near)) - 1
    found = {}
    # What is around a piece without a place and its neighbours is a least parting lot; so is what is around a piece
    # without such a lot and the neighbours of one of its places; and all of them come in this way.
    waiting = [mask | 1 << place for place, mask in enumerate(near)]
    while waiting:
        gone = waiting.pop()
        for piece in pieces_of(near, full & ~gone):
            mask = around(near, piece)
            if mask not in found:
                found[mask] = True
                waiting.extend([mask | near[place] for place in lot_of(mask)])
    return list(found)


def in_lot_order(masks):
    """The list of the lots of the masks, in lot order."""
    return sorted([lot_of(mask) for mask in masks], key=lambda lot: (len(lot), lot))

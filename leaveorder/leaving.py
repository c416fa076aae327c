"""Which places may leave, and leaving orders."""

from leaveorder.bare_rounds import bare_ring, rest_mask
from leaveorder.checks import check_lot, check_row, check_web
from leaveorder.errors import NotLeaving, NotTied
from leaveorder.forms import is_row_form
from leaveorder.masks import (first_untied, full_mask, hitch_of, later_masks, leavers, leaving_row, lot_of, mask_of,
                              near_masks)


def may_leave(web, lot=()):
    """The lot of the places that may leave when the places of the lot have gone."""
    check_web(web)
    check_lot(web, lot)
    return lot_of(leavers(near_masks(web), full_mask(web) & ~mask_of(lot)))


def is_leaving(web):
    """Whether the web has a leaving order."""
    check_web(web)
    return rest_mask(near_masks(web), full_mask(web)) == 0


def is_order(web, value):
    """Whether any value is a leaving order of the web."""
    check_web(web)
    return is_row_form(web[0], value) and hitch_of(near_masks(web), value) is None


def first_order(web):
    """The first leaving order."""
    return order_ending(web, ())


def order_ending(web, lot):
    """The first leaving order whose last places are just those of the lot."""
    check_web(web)
    check_lot(web, lot)
    near = near_masks(web)
    check_tied(near, lot)
    check_leaving(web)
    # No choice is wrong, and while others than those of a tied lot are there one of them may leave.
    order = leaving_row(near, full_mask(web), mask_of(lot))
    return (*order, *lot)


def later_neighbours(web, row):
    """The list that has, for each place of the row, the lot of its neighbours behind it there."""
    check_web(web)
    check_row(web, row)
    return [lot_of(later) for later in later_masks(near_masks(web), row)]


def first_hitch(web, row):
    """The least index of the row whose place may not leave when the ones ahead have gone; None if there is none."""
    check_web(web)
    check_row(web, row)
    return hitch_of(near_masks(web), row)


def check_tied(near, lot):
    """Raise NotTied with the first two places of the lot that are not tied, if there are such."""
    tie = first_untied(near, lot)
    if tie is not None:
        raise NotTied(tie)


def check_leaving(web):
    """Raise NotLeaving with a bare round unless the web is a leaving one."""
    ring = bare_ring(web)
    if ring is not None:
        raise NotLeaving(ring)

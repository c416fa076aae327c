"""Widths of a web and by a row, and thickets that show a width to be needed."""

from itertools import combinations

from leaveorder.checks import check_row, check_web
from leaveorder.errors import InvalidThicket, TooMany
from leaveorder.forms import is_ascending, is_lot_form, is_tuple
from leaveorder.masks import around, full_mask, is_joined_mask, lot_of, mask_of, near_masks, pieces_of
from leaveorder.put_in import least_row, put_in_by, width_behind

MOST_WITH_THICKET = 8


def width(web):
    """The least width by any row."""
    check_web(web)
    return least_row(near_masks(web), width_behind)[0]


def width_by(web, row):
    """The greatest number of neighbours that are still there when a place of the row leaves."""
    check_web(web)
    check_row(web, row)
    return put_in_by(near_masks(web), row)[1]


def least_width_row(web):
    """A row with the least width by it."""
    check_web(web)
    return least_row(near_masks(web), width_behind)[1]


def is_thicket(web, value):
    """Whether any value is a thicket of the web."""
    check_web(web)
    return is_thicket_form(web, value)


def meeting_lot(web, thicket):
    """The first lot, in lot order, that has a place of each lot of the thicket."""
    check_web(web)
    if not is_thicket_form(web, thicket):
        raise InvalidThicket("an ascending tuple of joined lots each two of which touch is wanted")
    masks = [mask_of(lot) for lot in thicket]
    for size in range(web[0]):
        for lot in combinations(range(web[0]), size):
            if is_meeting(masks, mask_of(lot)):
                return lot
    return tuple(range(web[0]))


def thicket_order(web, thicket):
    """The fewest places that a lot with a place of each lot of the thicket has."""
    return len(meeting_lot(web, thicket))


def widest_thicket(web):
    """A thicket whose order is one more than the width."""
    check_web(web)
    if web[0] > MOST_WITH_THICKET:
        raise TooMany(MOST_WITH_THICKET)
    near, full = near_masks(web), full_mask(web)
    size = int(width(web))
    # No lot of so many places meets a thicket of this order: a piece without it contains all that it leaves untouched.
    # So from each such lot's pieces one can be chosen such that each two of the chosen touch, and these will do.
    sides = [pieces_of(near, full & ~mask_of(lot)) for lot in combinations(range(web[0]), size)]
    return tuple(sorted(set([lot_of(mask) for mask in touching_choice(near, sides)])))


def is_thicket_form(web, value):
    """Whether the value is a thicket of the web."""
    if not is_tuple(value) or not value or not all([is_lot_form(web[0], lot) for lot in value]):
        return False
    near = near_masks(web)
    masks = [mask_of(lot) for lot in value]
    if not is_ascending(value) or not all([is_joined_mask(near, mask) for mask in masks]):
        return False
    return all([is_meeting(masks[at:], mask | around(near, mask)) for at, mask in enumerate(masks)])


def is_meeting(masks, mask):
    """Whether the mask has a place of each of the masks."""
    return all([mask & other for other in masks])


def touching_choice(near, sides):
    """A list of one mask of each of the lists, each two of which touch; None if there is none."""
    if not sides:
        return []
    # Those with the fewest masks come first: where one is left it has to be taken.
    sides = sorted(sides, key=len)
    for mask in sides[0]:
        wide = mask | around(near, mask)
        found = touching_choice(near, [[other for other in masks if other & wide] for masks in sides[1:]])
        if found is not None:
            return [mask, *found]
    return None

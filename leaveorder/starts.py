"""Starts and stays of a leaving web: which places can go first, and which can be those that are left then."""

from leaveorder.by_number import ways_to_begin
from leaveorder.checks import check_lot, check_web
from leaveorder.errors import TooMany
from leaveorder.leaving import check_leaving, is_leaving
from leaveorder.masks import full_mask, leaver_table, leavers, leaving_row, lot_of, mask_of, near_masks

MOST_LISTED = 8


def is_start(web, lot):
    """Whether the places of the lot can go first; False of a web that is no leaving one."""
    check_web(web)
    check_lot(web, lot)
    return is_leaving(web) and is_stay(web, full_mask(web) & ~mask_of(lot))


def start_count(web):
    """How many starts there are."""
    check_web(web)
    check_leaving(web)
    return len(start_masks(web))


def starts(web):
    """The list of all starts, in lot order."""
    check_web(web)
    check_leaving(web)
    if web[0] > MOST_LISTED:
        raise TooMany(MOST_LISTED)
    return sorted([lot_of(mask) for mask in start_masks(web)], key=lambda lot: (len(lot), lot))


def stay_over(web, lot):
    """The least stay that contains the lot."""
    check_lasting(web, lot)
    return lot_of(stay_mask(web, mask_of(lot)))


def free_in(web, lot):
    """The lot of the places of the least stay over the lot that may leave there."""
    check_lasting(web, lot)
    return lot_of(leavers(near_masks(web), stay_mask(web, mask_of(lot))))


def order_staying(web, lot):
    """The first leaving order whose last places are just those of the lot; None if the lot is no stay."""
    check_lasting(web, lot)
    held = mask_of(lot)
    if not is_stay(web, held):
        return None
    near = near_masks(web)
    return (*leaving_row(near, full_mask(web), held), *leaving_row(near, held, 0))


def check_lasting(web, lot):
    """Raise the error of the web or the lot, or NotLeaving."""
    check_web(web)
    check_lot(web, lot)
    check_leaving(web)


def start_masks(web):
    """The list of the masks of all starts of a leaving web, ascending."""
    return [gone for gone, many in enumerate(ways_to_begin(leaver_table(web))) if many]


def stay_mask(web, held):
    """The mask of the least stay of a leaving web that contains the mask held."""
    near, left = near_masks(web), full_mask(web)
    # Who may leave may do so, too, when others have gone ahead: so what can go without the held is told by going on.
    return left & ~mask_of(leaving_row(near, left, held))


def is_stay(web, held):
    """Whether all places but the held ones of a leaving web can go first."""
    return stay_mask(web, held) == held

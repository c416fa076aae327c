"""Leaving orders that come of one another when two places side by side are exchanged."""

from leaveorder.checks import check_number, check_order, check_web
from leaveorder.errors import Refused
from leaveorder.forms import is_list, is_within
from leaveorder.masks import is_tied_mask, mask_of, near_masks


def swaps_of(web, order):
    """The ascending list of the swaps of the leaving order."""
    check_web(web)
    check_order(web, order)
    near = near_masks(web)
    return [at for at in range(web[0] - 1) if is_swap(near, order, at)]


def swapped(web, order, number):
    """The leaving order with the places at number and number + 1 exchanged."""
    check_web(web)
    check_order(web, order)
    check_number(number)
    if number > web[0] - 2 or not is_swap(near_masks(web), order, number):
        raise Refused("the places cannot be exchanged")
    return with_swap(order, number)


def fewest_swaps(web, order, other_order):
    """How many indexes a shortest swap row from the one to the other has."""
    check_two(web, order, other_order)
    index = index_in(other_order)
    return len([1 for at, place in enumerate(order) for behind in order[at:] if index[behind] < index[place]])


def swap_row(web, order, other_order):
    """A swap row from the one to the other, of as few indexes as can be."""
    check_two(web, order, other_order)
    near = near_masks(web)
    index = index_in(other_order)
    row = []
    while order != other_order:
        # Whichever swap lessens the number of places in unlike sequence leads nearer: so the first one is taken.
        steps = [at for at in range(web[0] - 1)
                 if index[order[at + 1]] < index[order[at]] and is_swap(near, order, at)]
        row.append(steps[0])
        order = with_swap(order, steps[0])
    return row


def is_swap_row(web, order, other_order, value):
    """Whether any value is a swap row from the one to the other."""
    check_two(web, order, other_order)
    if not is_list(value):
        return False
    near = near_masks(web)
    for at in value:
        if not is_within(at, 0, web[0] - 2) or not is_swap(near, order, at):
            return False
        order = with_swap(order, at)
    return order == other_order


def check_two(web, order, other_order):
    """Raise the error of the first one of these that is wrong."""
    check_web(web)
    check_order(web, order)
    check_order(web, other_order)


def is_swap(near, order, at):
    """Whether the index is a swap of the leaving order."""
    # The second place may leave ahead of the first one; then the first one may go on to leave.
    return is_tied_mask(near, near[order[at + 1]] & mask_of(order[at:]))


def with_swap(order, at):
    """The order with the places at the index and behind it exchanged."""
    return (*order[:at], order[at + 1], order[at], *order[at + 2:])


def index_in(order):
    """A dict that has for each place its index in the order."""
    return {place: at for at, place in enumerate(order)}

"""Dyeings: tied places get unlike dyes; dyeings by number, and from one to another by exchanges."""

from leaveorder.checks import check_number, check_order, check_place, check_web
from leaveorder.errors import InvalidCount, InvalidDye, InvalidDyeing
from leaveorder.forms import is_list, is_tuple, is_within
from leaveorder.leaving import check_leaving, first_order
from leaveorder.masks import later_masks, lot_of, mask_of, near_masks, piece_with

MOST_DYES = 1000


def is_dyeing(web, dyes, value):
    """Whether any value is a dyeing of the web with so many dyes."""
    check_web(web)
    check_dyes(dyes)
    return is_dyeing_form(web, dyes, value)


def dyeing_count(web, dyes):
    """How many dyeings with so many dyes there are."""
    check_web(web)
    check_dyes(dyes)
    count = 1
    for many in later_counts(web):
        # The later neighbours of a place are tied: whatever has come ahead, just so many of the dyes are not free.
        count = count * max(0, dyes - many)
    return count


def fewest_dyes(web):
    """The fewest dyes with which there is a dyeing."""
    return later_counts(web)[-1] + 1


def later_counts(web):
    """The tuple of the numbers of later neighbours of all places in a leaving order, lesser ones first."""
    check_web(web)
    return tuple(sorted([len(lot_of(later)) for later in later_masks(near_masks(web), first_order(web))]))


def direction_count(web):
    """In how many ways the ties can be given directions such that none lead from a place back to it."""
    count = 1
    for many in later_counts(web):
        count = count * (many + 1)
    return count


def dyed_back(web, row):
    """The dyeing in which each place, from the last one in the leaving order on, gets the least dye that is free."""
    check_web(web)
    check_order(web, row)
    return dyed_along(web, row, web[0], [0] * web[0])


def first_dyeing(web, dyes):
    """The first dyeing with so many dyes; None if there is none."""
    check_web(web)
    check_dyes(dyes)
    if fewest_dyes(web) > dyes:
        return None
    return dyeing_on(near_masks(web), dyes, ())


def dyeing_number(web, dyes, dyeing):
    """The number of the dyeing."""
    check_web(web)
    check_dyes(dyes)
    check_dyeing(web, dyes, dyeing)
    order = first_order(web)
    number = 0
    for place, later in reversed(list(zip(order, later_masks(near_masks(web), order)))):
        held = [dyeing[other] for other in lot_of(later)]
        number = number * (dyes - len(held)) + dyeing[place] - len([dye for dye in held if dye < dyeing[place]])
    return number


def nth_dyeing(web, dyes, number):
    """The dyeing with this number; None if there is none."""
    check_web(web)
    check_dyes(dyes)
    check_number(number)
    if number >= dyeing_count(web, dyes):
        return None
    order = first_order(web)
    digits = []
    for later in later_masks(near_masks(web), order):
        number, digit = divmod(number, dyes - len(lot_of(later)))
        digits.append(digit)
    return dyed_along(web, order, dyes, digits)


def exchanged(web, dyes, dyeing, place, dye):
    """The dyeing behind the exchange at the place with the dye."""
    check_web(web)
    check_dyes(dyes)
    check_dyeing(web, dyes, dyeing)
    check_place(web, place)
    if not is_within(dye, 0, dyes - 1) or dye == dyeing[place]:
        raise InvalidDye("one of the dyes is wanted that the place does not have")
    check_leaving(web)
    return with_exchange(near_masks(web), dyeing, place, dye)


def exchange_row(web, dyes, dyeing, other_dyeing):
    """An exchange row from the one to the other, with at most as many entries as there are places."""
    check_two(web, dyes, dyeing, other_dyeing)
    near = near_masks(web)
    row = []
    for place in reversed(first_order(web)):
        # The later neighbours have their dyes already, and neither of the two dyes of this exchange is among them. A
        # way through places ahead to any later one would end at a later neighbour: so none of the later ones changes.
        if dyeing[place] != other_dyeing[place]:
            row.append((place, other_dyeing[place]))
            dyeing = with_exchange(near, dyeing, place, other_dyeing[place])
    return row


def is_exchange_row(web, dyes, dyeing, other_dyeing, value):
    """Whether any value is an exchange row from the one to the other."""
    check_two(web, dyes, dyeing, other_dyeing)
    if not is_list(value):
        return False
    near = near_masks(web)
    for step in value:
        if not is_step(web, dyes, dyeing, step):
            return False
        dyeing = with_exchange(near, dyeing, step[0], step[1])
    return dyeing == other_dyeing


def check_dyes(dyes):
    """Raise InvalidCount unless this is a number of dyes."""
    if not is_within(dyes, 0, MOST_DYES):
        raise InvalidCount("a number of dyes from 0 to 1,000 is wanted")


def check_dyeing(web, dyes, dyeing):
    """Raise InvalidDyeing unless this is a dyeing of the web with so many dyes."""
    if not is_dyeing_form(web, dyes, dyeing):
        raise InvalidDyeing("a dyeing of the web with so many dyes is wanted")


def check_two(web, dyes, dyeing, other_dyeing):
    """Raise the error of the first one of these that is wrong, or NotLeaving."""
    check_web(web)
    check_dyes(dyes)
    check_dyeing(web, dyes, dyeing)
    check_dyeing(web, dyes, other_dyeing)
    check_leaving(web)


def is_dyeing_form(web, dyes, value):
    """Whether the value is a dyeing of the web with so many dyes."""
    if not is_tuple(value) or len(value) != web[0] or not all([is_within(dye, 0, dyes - 1) for dye in value]):
        return False
    return all([value[x] != value[y] for x, y in web[1]])


def is_step(web, dyes, dyeing, value):
    """Whether the value is a tuple (place, dye) that can be exchanged in the dyeing."""
    if not is_tuple(value) or len(value) != 2:
        return False
    place, dye = value
    return is_within(place, 0, web[0] - 1) and is_within(dye, 0, dyes - 1) and dye != dyeing[place]


def dyed_along(web, order, dyes, digits):
    """The dyeing in which each place of the leaving order has the dye with its digit as index, of those that are free.

    Free are those of so many dyes that none of its later neighbours has.
    """
    dyeing = {}
    for place, later, digit in reversed(list(zip(order, later_masks(near_masks(web), order), digits))):
        held = [dyeing[other] for other in lot_of(later)]
        dyeing[place] = [dye for dye in range(dyes) if dye not in held][digit]
    return tuple([dyeing[place] for place in range(web[0])])


def dyeing_on(near, dyes, dyeing):
    """The first dyeing with so many dyes that begins with these; None if there is none."""
    place = len(dyeing)
    if place == len(near):
        return dyeing
    # Of the dyes that no place has yet the least one does as well as any other.
    fresh = max(dyeing, default=-1) + 1
    held = [dyeing[other] for other in lot_of(near[place] & ((1 << place) - 1))]
    for dye in range(min(dyes, fresh + 1)):
        if dye not in held and is_dye_left(near, dyes, (*dyeing, dye)):
            found = dyeing_on(near, dyes, (*dyeing, dye))
            if found is not None:
                return found
    return None


def is_dye_left(near, dyes, dyeing):
    """Whether each place without a dye has neighbours of fewer unlike dyes than there are."""
    done = (1 << len(dyeing)) - 1
    return all([len(set([dyeing[other] for other in lot_of(near[place] & done)])) < dyes
                for place in range(len(dyeing), len(near))])


def with_exchange(near, dyeing, place, dye):
    """The dyeing behind the exchange at the place with the dye."""
    old = dyeing[place]
    both = mask_of([other for other, held in enumerate(dyeing) if held == old or held == dye])
    chain = piece_with(near, both, place)
    turned = {old: dye, dye: old}
    return tuple([turned[held] if chain >> other & 1 else held for other, held in enumerate(dyeing)])

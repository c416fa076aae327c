"""Webs put together and drawn together, and firm lots: those that no tied lot parts."""

from leaveorder.checks import check_lot, check_place, check_tie, check_web
from leaveorder.errors import InvalidCount, InvalidLot, InvalidPlace, NotTied, TooMany
from leaveorder.forms import MOST_PLACES, is_within
from leaveorder.masks import around, first_untied, full_mask, is_tied_mask, lot_of, mask_of, near_masks, pieces_of
from leaveorder.partings import parting_masks
from leaveorder.webs import all_pairs, inner, pair_of
from leaveorder.whole_lots import largest

MOST_STEPS = 11


def glued(web, other_web, lot, other_lot):
    """Both webs with the places of the other lot and those of the lot as one, in their sequence."""
    check_web(web)
    check_web(other_web)
    check_lot(web, lot)
    check_lot(other_web, other_lot)
    tie = first_untied(near_masks(web), lot)
    if tie is not None:
        raise NotTied(tie)
    if len(other_lot) != len(lot) or not is_tied_mask(near_masks(other_web), mask_of(other_lot)):
        raise InvalidLot("a tied lot of as many places is wanted")
    count = web[0] + other_web[0] - len(lot)
    number = dict(zip(other_lot, lot))
    others = [place for place in range(other_web[0]) if place not in other_lot]
    for at, place in enumerate(others):
        number[place] = web[0] + at
    return joined_web(count, [*web[1], *[(number[x], number[y]) for x, y in other_web[1]]])


def with_place(web, lot):
    """The web with a further place that is tied with just the places of the lot."""
    check_web(web)
    check_lot(web, lot)
    return joined_web(web[0] + 1, [*web[1], *[(place, web[0]) for place in lot]])


def less_place(web, place):
    """The web without the place."""
    check_web(web)
    check_place(web, place)
    if web[0] == 1:
        raise InvalidPlace("a place that is not the only one is wanted")
    return inner(web, tuple([other for other in range(web[0]) if other != place]))


def put_in(web, place, other_web):
    """The web with the other web in the place's stead, each of its places tied with those that the place was."""
    check_web(web)
    check_place(web, place)
    check_web(other_web)
    number = lowered(web[0], place)
    first = web[0] - 1
    ties = [(number[x], number[y]) for x, y in web[1] if x != place and y != place]
    ties.extend([(x + first, y + first) for x, y in other_web[1]])
    for beside in lot_of(near_masks(web)[place]):
        ties.extend([(number[beside], first + other) for other in range(other_web[0])])
    return joined_web(first + other_web[0], ties)


def joined_all(web, other_web):
    """Both webs beside one another, each place of the one tied with each of the other."""
    check_web(web)
    check_web(other_web)
    count = web[0] + other_web[0]
    ties = [*web[1], *[(x + web[0], y + web[0]) for x, y in other_web[1]]]
    return joined_web(count, [*ties, *[(x, y) for x in range(web[0]) for y in range(web[0], count)]])


def drawn(web, tie):
    """The web with the greater end of the tie drawn into the lesser one."""
    check_web(web)
    check_tie(web, tie)
    number = lowered(web[0], tie[1])
    number[tie[1]] = tie[0]
    return joined_web(web[0] - 1, [(number[x], number[y]) for x, y in web[1] if (x, y) != tie])


def power(web, number):
    """The web in which two places are tied if a way of at most so many ties leads from the one to the other."""
    check_web(web)
    if not is_within(number, 1, MOST_STEPS):
        raise InvalidCount("an integer from 1 to 11 is wanted")
    near = near_masks(web)
    reached = [1 << place for place in range(web[0])]
    for _ in range(number):
        reached = [mask | around(near, mask) for mask in reached]
    return (web[0], tuple([(x, y) for x, y in all_pairs(web[0]) if reached[x] >> y & 1]))


def is_firm(web, lot):
    """Whether no tied lot parts the places of the lot, which has one or more."""
    check_web(web)
    check_lot(web, lot)
    return lot != () and tied_parting(web, mask_of(lot)) is None


def firm_lots(web):
    """The ascending list of the greatest firm lots."""
    check_web(web)
    near = near_masks(web)
    waiting, firm = [full_mask(web)], []
    while waiting:
        mask = waiting.pop()
        parting = tied_parting(web, mask)
        if parting is None:
            firm.append(mask)
        else:
            # A firm lot lies in one of the pieces, together with the tied lot that parts them.
            waiting.extend([piece | parting for piece in pieces_of(near, mask & ~parting)])
    return sorted([lot_of(mask) for mask in largest(firm)])


def joined_web(count, ties):
    """The web of so many places with these ties, told in any sequence and perhaps several times."""
    if count > MOST_PLACES:
        raise TooMany(MOST_PLACES)
    return (count, tuple(sorted(set([pair_of(x, y) for x, y in ties]))))


def lowered(count, gone):
    """A dict that has for each of so many places its number when the place that is gone has been taken out."""
    return {place: place - 1 if place > gone else place for place in range(count)}


def tied_parting(web, mask):
    """The mask of a tied lot that parts two places in the web of the places of the mask; None if there is none."""
    lot = lot_of(mask)
    near = near_masks(inner(web, lot))
    for parting in parting_masks(near):
        # Each tied lot that parts two places contains a least parting lot of these, which is tied, too.
        if is_tied_mask(near, parting):
            return mask_of([lot[at] for at in lot_of(parting)])
    return None

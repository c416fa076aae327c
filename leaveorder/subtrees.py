"""Subtrees of a tree as webs: hosts, their spreads, and what these tell of the web."""

from leaveorder.checks import check_lot, check_place, check_tie, check_web
from leaveorder.errors import InvalidHost, InvalidLot, InvalidSpread
from leaveorder.forms import MOST_PLACES, is_lot_form, is_tuple, is_web_form
from leaveorder.lot_trees import first_tree
from leaveorder.masks import around, full_mask, is_joined_mask, lot_of, mask_of, near_masks, piece_with
from leaveorder.webs import all_pairs, pair_of
from leaveorder.whole_lots import whole_lots


def is_host(value):
    """Whether any value is a host."""
    if not is_web_form(value) or len(value[1]) != value[0] - 1:
        return False
    return is_joined_mask(near_masks(value), full_mask(value))


def is_spread(host, value):
    """Whether any value is a spread of the host."""
    check_host(host)
    return is_spread_form(host, value)


def web_of_spread(host, spread):
    """The web of the spread."""
    check_spread(host, spread)
    return web_of(spread)


def spread_of(web):
    """A tuple (host, spread) of as few spots as can be, the web of which is the web."""
    check_web(web)
    # The first tree tells NotLeaving where there is none; by it the whole lots that have a place are joined.
    tree = first_tree(web)
    wholes = whole_lots(web)
    spread = [tuple([at for at, lot in enumerate(wholes) if place in lot]) for place in range(web[0])]
    return ((len(wholes), tree), tuple(spread))


def is_spread_of(web, value):
    """Whether any value is a tuple of a host and a spread of it, the web of which is the web."""
    check_web(web)
    if not is_tuple(value) or len(value) != 2 or not is_host(value[0]):
        return False
    return is_spread_form(value[0], value[1]) and web_of(value[1]) == web


def common_spots(host, spread, lot):
    """The lot of the spots that are in all lots of the spread at these places."""
    check_spread(host, spread)
    if not is_lot_form(len(spread), lot) or not lot:
        raise InvalidLot("a lot of one place or more of the web of the spread is wanted")
    common = full_mask(host)
    for place in lot:
        common = common & mask_of(spread[place])
    return lot_of(common)


def spanned(host, lot):
    """The least joined lot of spots that contains the lot; () of ()."""
    check_host(host)
    check_lot(host, lot)
    near = near_masks(host)
    left = full_mask(host)
    ends = ends_beside(near, left, lot)
    while ends:
        left = left & ~mask_of(ends)
        ends = ends_beside(near, left, lot)
    return lot_of(left)


def across(host, spread, tie):
    """The lot of the places whose lots have both ends of the tie of the host."""
    check_spread(host, spread)
    check_tie(host, tie)
    return tuple([place for place, lot in enumerate(spread) if tie[0] in lot and tie[1] in lot])


def beyond(host, spread, tie):
    """The lots of the places whose lots lie on the side of the tie's lesser end, and on that of the greater end."""
    check_spread(host, spread)
    check_tie(host, tie)
    return (places_beside(host, spread, tie[0], tie[1]), places_beside(host, spread, tie[1], tie[0]))


def order_from(host, spread, spot):
    """All places, those first whose spot that is nearest to this one is reached by the most ties."""
    check_spread(host, spread)
    check_place(host, spot)
    steps = steps_from(host, spot)
    tops = [min([steps[held] for held in lot]) for lot in spread]
    return tuple(sorted(range(len(spread)), key=lambda place: (-tops[place], place)))


def trimmed(host, spread):
    """The tuple (host, spread) that is left when ties one end of which can go are drawn together."""
    check_spread(host, spread)
    step = first_going(host, spread)
    while step is not None:
        host, spread = drawn_together(host, spread, step[0], step[1])
        step = first_going(host, spread)
    return (host, spread)


def check_host(host):
    """Raise InvalidHost unless this is a host."""
    if not is_host(host):
        raise InvalidHost("a host is wanted: a web that is a tree")


def check_spread(host, spread):
    """Raise the error of the first one of these that is wrong."""
    check_host(host)
    if not is_spread_form(host, spread):
        raise InvalidSpread("a spread of the host is wanted: a tuple of joined lots of its spots")


def is_spread_form(host, value):
    """Whether the value is a spread of what is a host."""
    if not is_tuple(value) or not 1 <= len(value) <= MOST_PLACES:
        return False
    near = near_masks(host)
    return all([is_lot_form(host[0], lot) and is_joined_mask(near, mask_of(lot)) for lot in value])


def web_of(spread):
    """The web of what is a spread of some host."""
    held = [mask_of(lot) for lot in spread]
    return (len(spread), tuple([(x, y) for x, y in all_pairs(len(spread)) if held[x] & held[y]]))


def ends_beside(near, left, lot):
    """The list of the spots of the mask left that have at most one neighbour there and are not in the lot."""
    return [spot for spot in lot_of(left) if spot not in lot and len(lot_of(near[spot] & left)) < 2]


def places_beside(host, spread, end, other_end):
    """The lot of the places whose lots have only spots that are reached from the end without the other end."""
    # The host is a tree: what is reached without the other end is what is reached without the tie.
    side = piece_with(near_masks(host), full_mask(host) & ~(1 << other_end), end)
    return tuple([place for place, lot in enumerate(spread) if mask_of(lot) & ~side == 0])


def steps_from(host, spot):
    """A dict that has for each spot the number of ties by which it is reached from the spot."""
    near = near_masks(host)
    steps = {}
    reached, fresh, many = 0, 1 << spot, 0
    while fresh:
        for other in lot_of(fresh):
            steps[other] = many
        reached |= fresh
        fresh = around(near, reached)
        many += 1
    return steps


def first_going(host, spread):
    """The tuple (end that can go, other end) of the first tie that has such an end; None if there is none."""
    for x, y in host[1]:
        if can_go(spread, y, x):
            return (y, x)
        if can_go(spread, x, y):
            return (x, y)
    return None


def can_go(spread, spot, other):
    """Whether all lots that have the spot have the other one, too."""
    return all([other in lot for lot in spread if spot in lot])


def drawn_together(host, spread, gone, kept):
    """The host and the spread when the spot that is gone has been drawn into its neighbour that is kept."""
    number = {spot: spot - 1 if spot > gone else spot for spot in range(host[0])}
    number[gone] = number[kept]
    ties = [pair_of(number[x], number[y]) for x, y in host[1] if number[x] != number[y]]
    lots = [tuple([number[spot] for spot in lot if spot != gone]) for lot in spread]
    return (host[0] - 1, tuple(sorted(ties))), tuple(lots)

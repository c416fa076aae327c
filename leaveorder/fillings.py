"""Fillings: missing ties with which a web can be left; and the least parting lots that they come of."""

from leaveorder.bare_rounds import bare_ring
from leaveorder.checks import check_row, check_web
from leaveorder.errors import InvalidLot, InvalidTies, NotFilling, TooMany
from leaveorder.forms import is_ascending, is_lot_form, is_pair_form, is_tuple
from leaveorder.leaving import first_order, is_leaving
from leaveorder.masks import full_mask, lot_of, mask_of, near_masks, pieces_of
from leaveorder.partings import are_crossed, parting_masks
from leaveorder.put_in import least_row, put_in_by, puts_behind
from leaveorder.webs import all_pairs

MOST_LISTED = 7


def filled(web, missing):
    """The web with these missing ties."""
    check_missing(web, missing)
    return with_ties(web, missing)


def is_filling(web, missing):
    """Whether the missing ties are a filling."""
    check_missing(web, missing)
    return is_leaving(with_ties(web, missing))


def is_least_filling(web, value):
    """Whether any value is a least filling of the web."""
    check_web(web)
    return is_missing_form(web, value) and is_leaving(with_ties(web, value)) and not spare_of(web, value)


def spare_ties(web, missing):
    """The ascending list of the spare ties of the filling."""
    check_filling(web, missing)
    return spare_of(web, missing)


def least_within(web, missing):
    """A least filling all of whose ties are among these."""
    check_filling(web, missing)
    spare = spare_of(web, missing)
    while spare:
        missing = without(missing, spare[0])
        spare = spare_of(web, missing)
    return missing


def filling_by(web, row):
    """The filling by the row."""
    check_web(web)
    check_row(web, row)
    return tuple(put_in_by(near_masks(web), row)[0])


def row_for(web, missing):
    """A row whose filling has only ties of this filling."""
    check_filling(web, missing)
    # In a leaving order of the filled web the neighbours of a leaving place are tied there: no other ties come.
    return first_order(with_ties(web, missing))


def least_fillings(web):
    """The ascending list of all least fillings."""
    check_web(web)
    if web[0] > MOST_LISTED:
        raise TooMany(MOST_LISTED)
    found = parting_masks(near_masks(web))
    fits = []
    for parting in found:
        sides = sides_of(web, parting)
        fitting = [at for at, other in enumerate(found) if other != parting and not are_crossed(sides, other)]
        fits.append(mask_of(fitting))
    chosen = greatest_sets(fits, 0, (1 << len(found)) - 1, 0)
    return sorted([filling_within(web, [lot_of(found[at]) for at in lot_of(held)]) for held in chosen])


def fewest_count(web):
    """The least number of ties of a filling."""
    check_web(web)
    return least_row(near_masks(web), puts_behind)[0]


def fewest_filling(web):
    """A filling with as few ties as can be."""
    check_web(web)
    return filling_by(web, least_row(near_masks(web), puts_behind)[1])


def is_calm(web, value):
    """Whether any value is a calm set of the web."""
    check_web(web)
    return is_calm_form(web, parting_masks(near_masks(web)), value)


def is_greatest_calm(web, value):
    """Whether any value is a calm set that is contained in no other one."""
    check_web(web)
    found = parting_masks(near_masks(web))
    if not is_calm_form(web, found, value):
        return False
    sides = [sides_of(web, mask_of(lot)) for lot in value]
    more = [other for other in found if lot_of(other) not in value]
    return all([any([are_crossed(told, other) for told in sides]) for other in more])


def filling_by_lots(web, lots):
    """The ascending tuple of the missing ties both of whose ends are in one of the lots."""
    check_web(web)
    if not is_lots_form(web, lots):
        raise InvalidLot("an ascending tuple of lots of places of the web is wanted")
    return filling_within(web, lots)


def lots_of_filling(web, missing):
    """The ascending tuple of the least parting lots of the filled web."""
    check_filling(web, missing)
    return tuple(sorted([lot_of(mask) for mask in parting_masks(near_masks(with_ties(web, missing)))]))


def check_missing(web, missing):
    """Raise the error of the first one of these that is wrong."""
    check_web(web)
    if not is_missing_form(web, missing):
        raise InvalidTies("an ascending tuple of missing ties of the web is wanted")


def check_filling(web, missing):
    """Raise the error of the first one of these that is wrong, or NotFilling."""
    check_missing(web, missing)
    ring = bare_ring(with_ties(web, missing))
    if ring is not None:
        raise NotFilling(ring)


def is_missing_form(web, value):
    """Whether the value is an ascending tuple of missing ties of the web."""
    if not is_tuple(value) or not all([is_pair_form(web[0], tie) for tie in value]):
        return False
    return is_ascending(value) and not any([tie in web[1] for tie in value])


def is_lots_form(web, value):
    """Whether the value is an ascending tuple of lots of places of the web."""
    return is_tuple(value) and all([is_lot_form(web[0], lot) for lot in value]) and is_ascending(value)


def with_ties(web, missing):
    """The web with these missing ties."""
    return (web[0], tuple(sorted([*web[1], *missing])))


def without(missing, tie):
    """The missing ties without this one."""
    return tuple([other for other in missing if other != tie])


def spare_of(web, missing):
    """The ascending list of the spare ties of what is a filling."""
    return [tie for tie in missing if is_leaving(with_ties(web, without(missing, tie)))]


def filling_within(web, lots):
    """The ascending tuple of the missing ties both of whose ends are in one of the lots."""
    return tuple([(x, y) for x, y in all_pairs(web[0])
                  if (x, y) not in web[1] and any([x in lot and y in lot for lot in lots])])


def sides_of(web, parting):
    """The list of the masks of the pieces without the mask."""
    return pieces_of(near_masks(web), full_mask(web) & ~parting)


def is_calm_form(web, found, value):
    """Whether the value is a calm set; found are the masks of all least parting lots."""
    if not is_lots_form(web, value) or not all([mask_of(lot) in found for lot in value]):
        return False
    for at, lot in enumerate(value):
        sides = sides_of(web, mask_of(lot))
        # Of two least parting lots each crosses the other one, or neither does.
        if any([are_crossed(sides, mask_of(other)) for other in value[at + 1:]]):
            return False
    return True


def greatest_sets(fits, held, free, done):
    """The list of the greatest sets of things each two of which fit: those with all the held ones and more free ones.

    fits tells for each thing the mask of those that fit it; free and done are the others that fit all the held ones,
    the done ones being those whose sets have been told.
    """
    if not free and not done:
        return [held]
    found = []
    for at in lot_of(free):
        found.extend(greatest_sets(fits, held | 1 << at, free & fits[at], done & fits[at]))
        free = free & ~(1 << at)
        done |= 1 << at
    return found

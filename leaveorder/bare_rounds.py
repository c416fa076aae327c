"""Rounds, bare rounds, and what is left when no place may leave any more."""

from leaveorder.checks import check_lot, check_tie, check_web
from leaveorder.errors import InvalidRow, TooMany
from leaveorder.forms import is_unlike_places
from leaveorder.masks import full_mask, leavers, lot_of, mask_of, near_masks

MOST_LISTED = 10


def is_bare(web, value):
    """Whether any value is a bare round of the web."""
    check_web(web)
    return is_going_round(web, value) and told_form(value) == value and not across_of(web, value)


def bare_ring(web):
    """A bare round of the web; None if there is none."""
    return least_bare(web)


def bare_rings(web):
    """The list of all bare rounds, those of fewer places first."""
    check_web(web)
    if web[0] > MOST_LISTED:
        raise TooMany(MOST_LISTED)
    return rings_within(web, full_mask(web))


def least_bare(web):
    """The first bare round in the sequence of bare_rings; None if there is none."""
    check_web(web)
    return first_or_none(rings_within(web, full_mask(web)))


def bare_through(web, tie):
    """A bare round with the tie; None if there is none."""
    check_web(web)
    check_tie(web, tie)
    # No tie lies across a bare round, so the ends of a tie are next to one another in it.
    return first_or_none([ring for ring in rings_within(web, full_mask(web)) if tie[0] in ring and tie[1] in ring])


def ring_told(web, row):
    """The round of the row, in the told form."""
    check_web(web)
    check_round(web, row)
    return told_form(row)


def ties_across(web, row):
    """The ascending tuple of the ties across of the round of the row."""
    check_web(web)
    check_round(web, row)
    return across_of(web, row)


def bared(web, row):
    """A bare round whose places are all in the row; None if there is none."""
    check_web(web)
    check_round(web, row)
    return first_or_none(rings_within(web, mask_of(row)))


def rest(web):
    """The lot of the places that are left when places leave as long as some may."""
    check_web(web)
    return lot_of(rest_mask(near_masks(web), full_mask(web)))


def rest_among(web, lot):
    """The rest of the web of the places of the lot, told in the numbers of the web."""
    check_web(web)
    check_lot(web, lot)
    return lot_of(rest_mask(near_masks(web), mask_of(lot)))


def least_stuck(web):
    """The first lot, in lot order, none of whose places may leave when all others have gone."""
    check_web(web)
    rings = rings_within(web, full_mask(web))
    # The stuck lots of the fewest places are just the lots of the shortest bare rounds.
    return min([tuple(sorted(ring)) for ring in rings if len(ring) == len(rings[0])], default=None)


def check_round(web, row):
    """Raise InvalidRow unless the row goes round in the web."""
    if not is_going_round(web, row):
        raise InvalidRow("four or more unlike places are wanted, each tied with the next one, the last with the first")


def is_going_round(web, value):
    """Whether the value has four or more unlike places, next ones tied, the last with the first."""
    if not is_unlike_places(web[0], value) or len(value) < 4:
        return False
    near = near_masks(web)
    return all([near[place] >> behind & 1 for place, behind in steps_of(value)])


def steps_of(row):
    """The list of the tuples of two places of the row next to one another, the last and the first too."""
    return list(zip(row, row[1:] + row[:1]))


def told_form(row):
    """The row turned such that the least place comes first and the second is less than the last."""
    at = row.index(min(row))
    turned = row[at:] + row[:at]
    if turned[1] < turned[-1]:
        return turned
    return turned[:1] + turned[:0:-1]


def across_of(web, row):
    """The ascending tuple of the ties between places that are not next to one another in the row."""
    steps = steps_of(row)
    return tuple([(x, y) for x, y in web[1]
                  if x in row and y in row and (x, y) not in steps and (y, x) not in steps])


def first_or_none(rings):
    """The first one of the rings; None if there are none."""
    return rings[0] if rings else None


def rings_within(web, mask):
    """The list of the bare rounds of places of the mask, those of fewer places first."""
    near = near_masks(web)
    rings = []
    left = mask
    for first in lot_of(mask):
        # In the told form the first place is the least: those ahead of it have had their turn.
        left = left & ~(1 << first)
        for second in lot_of(near[first] & left):
            rings.extend(rings_along(near, (first, second), left & ~(1 << second)))
    return sorted(rings, key=lambda ring: (len(ring), ring))


def rings_along(near, way, left):
    """The list of the bare rounds, in the told form, that begin with the way.

    left has the places that may still come: none is in the way, or tied with a place of it
    that is neither its first nor its last one.
    """
    first, last = way[0], way[-1]
    rings = []
    for place in lot_of(near[last] & left):
        if not near[place] >> first & 1:
            rings.extend(rings_along(near, (*way, place), left & ~near[last]))
        elif len(way) > 2 and way[1] < place:
            rings.append((*way, place))
    return rings


def rest_mask(near, mask):
    """The mask of the places that are left of those of the mask."""
    gone = leavers(near, mask)
    while gone:
        # All of them may go at once: who may leave may do so, too, when others have gone ahead.
        mask = mask & ~gone
        gone = leavers(near, mask)
    return mask

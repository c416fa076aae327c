"""Lots as integers, *masks*: the bit x of a mask is 1 exactly if the lot has the place x.

These functions take what has been checked; near is what near_masks tells of a web.
"""


def mask_of(places):
    """The mask of the places."""
    mask = 0
    for place in places:
        mask |= 1 << place
    return mask


def lot_of(mask):
    """The lot of the mask."""
    return tuple([place for place in range(mask.bit_length()) if mask >> place & 1])


def full_mask(web):
    """The mask of all places of the web."""
    return (1 << web[0]) - 1


def near_masks(web):
    """The list that has, for each place, the mask of its neighbours."""
    near = [0] * web[0]
    for x, y in web[1]:
        near[x] |= 1 << y
        near[y] |= 1 << x
    return near


def is_tied_mask(near, mask):
    """Whether each two places of the mask are tied."""
    return all([(mask & ~near[place]) == (1 << place) for place in lot_of(mask)])


def is_apart_mask(near, mask):
    """Whether no two places of the mask are tied."""
    return all([(mask & near[place]) == 0 for place in lot_of(mask)])


def leavers(near, mask):
    """The mask of the places that may leave the web of the places of the mask."""
    return mask_of([place for place in lot_of(mask) if is_tied_mask(near, near[place] & mask)])


def piece_with(near, mask, place):
    """The mask of what is reached from the place along ties between places of the mask."""
    piece = 0
    grown = 1 << place
    while grown != piece:
        piece = grown
        for other in lot_of(piece):
            grown |= near[other] & mask
    return piece

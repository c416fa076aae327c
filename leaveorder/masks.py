"""Lots as integers, *masks*: the bit x of a mask is 1 exactly if the lot has the place x.

These functions take what has been checked; near is what near_masks tells of a web.
"""


def mask_of(places):
    """The mask of the places."""
    mask = 0
    for place in places:
        mask |= 1 << place
    return mask


def lot_of(mask):
    """The lot of the mask."""
    return tuple([place for place in range(mask.bit_length()) if mask >> place & 1])


def least_of(mask):
    """The least place of the mask, which has one."""
    return (mask & -mask).bit_length() - 1


def full_mask(web):
    """The mask of all places of the web."""
    return (1 << web[0]) - 1


def near_masks(web):
    """The list that has, for each place, the mask of its neighbours."""
    near = [0] * web[0]
    for x, y in web[1]:
        near[x] |= 1 << y
        near[y] |= 1 << x
    return near


def is_tied_mask(near, mask):
    """Whether each two places of the mask are tied."""
    return all([(mask & ~near[place]) == (1 << place) for place in lot_of(mask)])


def first_untied(near, lot):
    """The first (x, y), x less than y, of places of the lot that are not tied; None if there is none."""
    return min([(x, y) for x in lot for y in lot if x < y and not near[x] >> y & 1], default=None)


def is_apart_mask(near, mask):
    """Whether no two places of the mask are tied."""
    return all([(mask & near[place]) == 0 for place in lot_of(mask)])


def leavers(near, mask):
    """The mask of the places that may leave the web of the places of the mask."""
    return mask_of([place for place in lot_of(mask) if is_tied_mask(near, near[place] & mask)])


def leaving_row(near, mask, held):
    """The list of the places in the sequence in which they go if the least one that may and is not held goes each time.

    It begins with all places of the mask and ends when no such one is left.
    """
    row = []
    free = leavers(near, mask) & ~held
    while free:
        row.append(least_of(free))
        mask = mask & ~(1 << row[-1])
        free = leavers(near, mask) & ~held
    return row


def tied_table(near):
    """The list that has, for each mask, whether it is tied."""
    table = [True]
    for others in near:
        # What is added are the masks with this place and none above it.
        table = table + [told and mask & ~others == 0 for mask, told in enumerate(table)]
    return table


def leaver_table(web):
    """The list that has, for each mask, the mask of the places that may leave when its places have gone."""
    near, full = near_masks(web), full_mask(web)
    tied = tied_table(near)
    return [mask_of([place for place in lot_of(full & ~gone) if tied[near[place] & ~gone]])
            for gone in range(full + 1)]


def later_masks(near, row):
    """The list that has, for each place of the row, the mask of its neighbours behind it there."""
    return [near[place] & mask_of(row[at:]) for at, place in enumerate(row)]


def hitch_of(near, row):
    """The least index of the row whose place may not leave when those ahead have gone; None if there is none."""
    for at, later in enumerate(later_masks(near, row)):
        if not is_tied_mask(near, later):
            return at
    return None


def around(near, mask):
    """The mask of the places outside of the mask that have a neighbour in it."""
    reached = 0
    for place in lot_of(mask):
        reached |= near[place]
    return reached & ~mask


def piece_with(near, mask, place):
    """The mask of what is reached from the place along ties between places of the mask."""
    piece = 0
    fresh = 1 << place
    while fresh:
        piece |= fresh
        fresh = around(near, piece) & mask
    return piece


def is_joined_mask(near, mask):
    """Whether the mask has a place, and from each of its places one comes to each other one along ties between them."""
    return mask != 0 and piece_with(near, mask, least_of(mask)) == mask


def pieces_of(near, mask):
    """The list of the masks of the pieces of the mask, ascending as lots."""
    found = []
    while mask:
        # The least place left is the first of its piece, so the pieces come ascending.
        found.append(piece_with(near, mask, least_of(mask)))
        mask = mask & ~found[-1]
    return found


def shortest_way(near, mask, starts, ends):
    """A shortest tuple of places of the mask, next ones tied, from one of the starts to one of the ends.

    starts and ends are masks within the mask; it is () if there is no such way.
    """
    ways = [(place,) for place in lot_of(starts)]
    left = mask & ~starts
    while ways:
        for way in ways:
            if ends >> way[-1] & 1:
                return way
        longer = []
        for way in ways:
            fresh = near[way[-1]] & left
            left = left & ~fresh
            longer.extend([(*way, place) for place in lot_of(fresh)])
        ways = longer
    return ()

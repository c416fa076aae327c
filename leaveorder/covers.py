"""Apart lots, covers of whole lots, and papers that show both to be the best ones."""

from leaveorder.checks import check_lot, check_number, check_order, check_web
from leaveorder.errors import InvalidWeights, NotApart
from leaveorder.forms import is_int, is_lot_form, is_tuple, is_within
from leaveorder.leaving import check_leaving, first_order
from leaveorder.masks import full_mask, is_apart_mask, later_masks, lot_of, mask_of, near_masks
from leaveorder.whole_lots import whole_lots

MOST_WEIGHT = 1000000


def apart_counts(web):
    """The list of the numbers of the apart lots with 0, 1, 2, .. places."""
    lots = apart_lots(web)
    counts = [0] * (len(lots[-1]) + 1)
    for lot in lots:
        counts[len(lot)] += 1
    return counts


def most_apart(web):
    """The most places of an apart lot."""
    return len(apart_lots(web)[-1])


def nth_apart(web, number):
    """The apart lot with this index in lot order; None if there are not so many."""
    check_web(web)
    check_number(number)
    lots = apart_lots(web)
    return lots[number] if number < len(lots) else None


def apart_number(web, lot):
    """The index of the apart lot in lot order."""
    check_web(web)
    check_lot(web, lot)
    for tie in web[1]:
        if tie[0] in lot and tie[1] in lot:
            raise NotApart(tie)
    return apart_lots(web).index(lot)


def heaviest_apart(web, weights):
    """The greatest sum of the weights of the places of an apart lot."""
    check_web(web)
    check_weights(web, weights)
    return max([weight_of(weights, lot) for lot in apart_lots(web)])


def is_cover(web, value):
    """Whether any value is a cover of the web."""
    check_web(web)
    return is_cover_form(web, value)


def is_apart_paper(web, value):
    """Whether any value is a tuple of an apart lot and a cover of as many whole lots as the lot has places."""
    check_web(web)
    if not is_tuple(value) or len(value) != 2 or not is_apart_form(web, value[0]):
        return False
    return is_cover_form(web, value[1]) and len(value[0]) == len(value[1])


def is_weight_paper(web, weights, value):
    """Whether any value is a tuple of an apart lot and counts of the whole lots that show it to be a heaviest one."""
    check_web(web)
    check_weights(web, weights)
    if not is_tuple(value) or len(value) != 2 or not is_apart_form(web, value[0]):
        return False
    lot, counts = value
    wholes = whole_lots(web)
    if not is_tuple(counts) or len(counts) != len(wholes) or not all([is_int(many) and many >= 0 for many in counts]):
        return False
    for place, weight in enumerate(weights):
        if sum([many for many, whole in zip(counts, wholes) if place in whole]) < weight:
            return False
    return sum(counts) == weight_of(weights, lot)


def apart_paper(web):
    """A tuple of an apart lot and a cover of as many whole lots."""
    check_web(web)
    lot, counts = paper_of(web, (1,) * web[0])
    # Two places that the counts stand for are never in one whole lot here: so each count is 0 or 1.
    return (lot, tuple([at for at, many in enumerate(counts) if many]))


def weight_paper(web, weights):
    """A tuple of an apart lot and counts of the whole lots that show it to be a heaviest one."""
    check_web(web)
    check_weights(web, weights)
    return paper_of(web, weights)


def apart_along(web, row):
    """The lot of the places that are taken if each is that is tied with none that the row has taken ahead."""
    check_web(web)
    check_order(web, row)
    return lot_of(taken_along(near_masks(web), row))


def fewest_cover(web):
    """The least number of whole lots in a cover."""
    return len(apart_paper(web)[1])


def check_weights(web, weights):
    """Raise InvalidWeights unless this is a tuple of a weight for each place."""
    right = is_tuple(weights) and len(weights) == web[0]
    if not right or not all([is_within(many, 0, MOST_WEIGHT) for many in weights]):
        raise InvalidWeights("a tuple of an integer from 0 to 1,000,000 for each place is wanted")


def apart_lots(web):
    """The list of all apart lots, in lot order."""
    check_web(web)
    masks = [0]
    for place, others in enumerate(near_masks(web)):
        masks = masks + [mask | 1 << place for mask in masks if mask & others == 0]
    return sorted([lot_of(mask) for mask in masks], key=lambda lot: (len(lot), lot))


def is_apart_form(web, value):
    """Whether the value is an apart lot of the web."""
    return is_lot_form(web[0], value) and is_apart_mask(near_masks(web), mask_of(value))


def is_cover_form(web, value):
    """Whether the value is a cover of the web."""
    wholes = whole_lots(web)
    if not is_lot_form(len(wholes), value):
        return False
    return mask_of([place for at in value for place in wholes[at]]) == full_mask(web)


def weight_of(weights, lot):
    """The sum of the weights of the places of the lot."""
    return sum([weights[place] for place in lot])


def taken_along(near, row):
    """The mask of the places that are taken if each is that is tied with none that the row has taken ahead."""
    taken = 0
    for place in row:
        if near[place] & taken == 0:
            taken |= 1 << place
    return taken


def paper_of(web, weights):
    """A tuple of an apart lot and counts, as weight_paper tells it."""
    check_leaving(web)
    near = near_masks(web)
    order = first_order(web)
    wholes = [mask_of(lot) for lot in whole_lots(web)]
    counts = [0] * len(wholes)
    left = list(weights)
    heads = []
    for place, later in zip(order, later_masks(near, order)):
        many = left[place]
        if many > 0:
            # What the place still lacks is given to it and its later neighbours, which a whole lot contains.
            heads.append(place)
            beside = later | 1 << place
            counts[[at for at, whole in enumerate(wholes) if beside & ~whole == 0][0]] += many
            for other in lot_of(beside):
                left[other] -= many
    # Each head is taken, or one of its later neighbours is: so the lot weighs just what was given.
    return (lot_of(taken_along(near, heads[::-1])), tuple(counts))

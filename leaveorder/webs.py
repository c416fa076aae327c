"""Webs, what can be asked of them, webs made of webs, and their texts."""

from leaveorder.checks import check_lot, check_other_place, check_place, check_row, check_tie, check_web
from leaveorder.errors import InvalidLot, InvalidText, Refused, TooMany
from leaveorder.forms import MOST_PLACES, is_text, is_web_form
from leaveorder.masks import full_mask, is_apart_mask, is_tied_mask, lot_of, mask_of, near_masks, pieces_of

LETTERS = "abcdefghijkl"


def is_web(value):
    """Whether any value is a web."""
    return is_web_form(value)


def neighbours(web, place):
    """The lot of the neighbours of the place."""
    check_web(web)
    check_place(web, place)
    return lot_of(near_masks(web)[place])


def is_tied(web, lot):
    """Whether each two places of the lot are tied."""
    check_web(web)
    check_lot(web, lot)
    return is_tied_mask(near_masks(web), mask_of(lot))


def is_apart(web, lot):
    """Whether no two places of the lot are tied."""
    check_web(web)
    check_lot(web, lot)
    return is_apart_mask(near_masks(web), mask_of(lot))


def pieces(web, lot=()):
    """The list of the pieces without the lot, ascending as tuples."""
    check_web(web)
    check_lot(web, lot)
    return [lot_of(piece) for piece in pieces_of(near_masks(web), full_mask(web) & ~mask_of(lot))]


def inner(web, lot):
    """The web of the places of the lot, numbered by their indexes in the lot."""
    check_web(web)
    check_lot(web, lot)
    if not lot:
        raise InvalidLot("a lot of one place or more is wanted")
    index = {place: at for at, place in enumerate(lot)}
    return (len(lot), tuple([(index[x], index[y]) for x, y in web[1] if x in index and y in index]))


def renamed(web, row):
    """The web in which row[x] and row[y] are tied exactly if x and y are tied in the web."""
    check_web(web)
    check_row(web, row)
    return (web[0], tuple(sorted([pair_of(row[x], row[y]) for x, y in web[1]])))


def beside(web, other_web):
    """Both webs as one, the places of the other one behind those of the first."""
    check_web(web)
    check_web(other_web)
    count = web[0] + other_web[0]
    if count > MOST_PLACES:
        raise TooMany(MOST_PLACES)
    return (count, web[1] + tuple([(x + web[0], y + web[0]) for x, y in other_web[1]]))


def with_tie(web, place, other_place):
    """The web in which the two places are tied, too."""
    check_web(web)
    check_place(web, place)
    check_other_place(web, place, other_place)
    tie = pair_of(place, other_place)
    if tie in web[1]:
        raise Refused("the two places are tied")
    return (web[0], tuple(sorted([*web[1], tie])))


def less_tie(web, tie):
    """The web without the tie."""
    check_web(web)
    check_tie(web, tie)
    return (web[0], tuple([other for other in web[1] if other != tie]))


def mirrored(web):
    """The web of the same places with just the ties that the web does not have."""
    check_web(web)
    return (web[0], tuple([pair for pair in all_pairs(web[0]) if pair not in web[1]]))


def web_text(web):
    """The text of the web."""
    check_web(web)
    return LETTERS[web[0] - 1] + ":" + ",".join([LETTERS[x] + LETTERS[y] for x, y in web[1]])


def web_told(text):
    """The web with this text."""
    if not is_text(text):
        raise InvalidText(0)
    web, at = web_told_at(text, 0, 1)
    if at < len(text):
        raise InvalidText(at)
    return web


def web_told_at(text, at, least):
    """The tuple (web of at least so many places that the text tells from the index on, index behind it)."""
    found = [count for count in range(least, MOST_PLACES + 1) if LETTERS[count - 1] == text[at:at + 1]]
    if not found:
        raise InvalidText(at)
    if text[at + 1:at + 2] != ":":
        raise InvalidText(at + 1)
    ties, at = pairs_told(text, at + 2, found[0])
    return (found[0], ties), at


def pairs_told(text, at, count):
    """The tuple (ascending tuple of pairs of so many places that the text tells from the index on, index behind it)."""
    pairs = []
    left = all_pairs(count)
    while left and at < len(text) and (text[at] == "," if pairs else text[at] in LETTERS):
        if pairs:
            at += 1
        pairs.append(tie_told(text, at, left))
        left = [pair for pair in left if pair > pairs[-1]]
        at += 2
    return tuple(pairs), at


def tie_told(text, at, left):
    """The one of the ties that may stand there whose letters the text has at the index."""
    begun = [tie for tie in left if LETTERS[tie[0]] == text[at:at + 1]]
    if not begun:
        raise InvalidText(at)
    for tie in begun:
        if LETTERS[tie[1]] == text[at + 1:at + 2]:
            return tie
    raise InvalidText(at + 1)


def all_pairs(count):
    """The ascending list of the tuples (x, y) of so many places, x less than y."""
    return [(x, y) for x in range(count) for y in range(x + 1, count)]


def pair_of(place, other_place):
    """The two places as a tuple, the lesser one first."""
    return (min(place, other_place), max(place, other_place))

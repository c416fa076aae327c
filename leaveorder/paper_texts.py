"""Papers, which show what is said of a web, and their texts."""

from leaveorder.bare_rounds import is_bare
from leaveorder.covers import is_apart_form
from leaveorder.errors import InvalidPaper, InvalidText, NotShown
from leaveorder.fillings import is_lots_form, is_missing_form, with_ties
from leaveorder.forms import is_text, is_tuple, is_web_form
from leaveorder.leaving import first_hitch, is_leaving, is_order
from leaveorder.webs import LETTERS, pairs_told, web_text, web_told_at
from leaveorder.whole_lots import whole_lots

WORDS = {"o": "order", "r": "ring", "f": "filling", "a": "apart"}
FEWEST_ROUND = 4


def is_paper(value):
    """Whether any value is a paper."""
    if not is_tuple(value) or len(value) < 3 or not is_text(value[0]) or not is_web_form(value[1]):
        return False
    word, web, *more = value
    if word == "apart":
        return len(more) == 2 and is_apart_shown(web, more[0], more[1])
    if len(more) != 1:
        return False
    if word == "order":
        return is_order(web, more[0])
    if word == "ring":
        return is_bare(web, more[0])
    return word == "filling" and is_missing_form(web, more[0]) and is_leaving(with_ties(web, more[0]))


def paper_text(value):
    """The text of the paper."""
    if not is_paper(value):
        raise InvalidPaper("a paper is wanted")
    word, web, *more = value
    parts = [word[0], web_text(web)]
    if word == "filling":
        parts.append(texts_of(more[0]))
    else:
        parts.append(letters_of(more[0]))
    if word == "apart":
        parts.append(texts_of(more[1]))
    return ";".join(parts)


def paper_told(text):
    """The paper with this text."""
    if not is_text(text):
        raise InvalidText(0)
    form = form_told(text)
    if is_paper(form):
        return form
    raise NotShown(first_hitch(form[1], form[2]) if form[0] == "order" else 0)


def is_apart_shown(web, lot, lots):
    """Whether the lot is apart, and the lots are as many whole lots that have all places."""
    if not is_apart_form(web, lot) or not is_lots_form(web, lots) or len(lots) != len(lot):
        return False
    wholes = whole_lots(web)
    return all([held in wholes for held in lots]) and all([any([x in held for held in lots]) for x in range(web[0])])


def letters_of(places):
    """The letters of the places, in their sequence."""
    return "".join([LETTERS[place] for place in places])


def texts_of(rows):
    """The letters of each of the rows, with a comma between neighbours."""
    return ",".join([letters_of(row) for row in rows])


def form_told(text):
    """The form with this text: a tuple made like a paper, whether it is one or not."""
    if text[:1] not in WORDS:
        raise InvalidText(0)
    word = WORDS[text[0]]
    check_sign(text, 1)
    web, at = web_told_at(text, 2, FEWEST_ROUND if word == "ring" else 1)
    check_sign(text, at)
    more, at = parts_told(word, text, at + 1, web[0])
    if at < len(text):
        raise InvalidText(at)
    return (word, web, *more)


def parts_told(word, text, at, count):
    """The tuple (list of what belongs to the web, told from the index on, index behind it)."""
    if word == "order":
        part, at = order_told(text, at, count)
    elif word == "ring":
        part, at = ring_read(text, at, count)
    elif word == "filling":
        part, at = pairs_told(text, at, count)
    else:
        part, at = lot_told(text, at, count, ())
        check_sign(text, at)
        lots, at = lots_told(text, at + 1, count)
        return [part, lots], at
    return [part], at


def check_sign(text, at):
    """Raise InvalidText unless a semicolon stands there."""
    if text[at:at + 1] != ";":
        raise InvalidText(at)


def place_told(text, at, count):
    """The one of so many places whose letter stands there; None if there is none."""
    for place in range(count):
        if LETTERS[place] == text[at:at + 1]:
            return place
    return None


def order_told(text, at, count):
    """The tuple (row of all places, told from the index on, index behind it)."""
    order = []
    while len(order) < count:
        place = place_told(text, at, count)
        if place is None or place in order:
            raise InvalidText(at)
        order.append(place)
        at += 1
    return tuple(order), at


def ring_read(text, at, count):
    """The tuple (four or more unlike places in the told form, told from the index on, index behind them)."""
    ring = ()
    place = place_told(text, at, count)
    while place is not None and is_ring_begun(count, (*ring, place)):
        ring = (*ring, place)
        at += 1
        place = place_told(text, at, count)
    if not is_ring_ended(ring):
        raise InvalidText(at)
    return ring, at


def is_ring_ended(ring):
    """Whether these unlike places, the first the least, are a ring in the told form."""
    return len(ring) >= FEWEST_ROUND and ring[1] < ring[-1]


def is_ring_begun(count, ring):
    """Whether a ring in the told form, of so many places, begins with these."""
    if ring[-1] in ring[:-1] or ring[-1] < ring[0]:
        return False
    left = [place for place in range(ring[0] + 1, count) if place not in ring]
    if is_ring_ended(ring):
        return True
    # The last one has to be greater than the second one.
    last = [place for place in left if len(ring) == 1 or place > ring[1]]
    return len(last) > 0 and len(ring) + len(left) >= FEWEST_ROUND


def lot_told(text, at, count, behind):
    """The tuple (lot of one place or more, greater than the one that it stands behind, index behind it)."""
    lot = ()
    place = place_told(text, at, count)
    while place is not None and is_lot_begun(count, (*lot, place), behind):
        lot = (*lot, place)
        at += 1
        place = place_told(text, at, count)
    if lot <= behind:
        raise InvalidText(at)
    return lot, at


def is_lot_begun(count, lot, behind):
    """Whether a lot of so many places that is greater than the one it stands behind begins with these."""
    if lot[-1] in lot[:-1] or lot != tuple(sorted(lot)):
        return False
    # The greatest lot that begins so has the last place next, if this is not there yet.
    return lot > behind or (*lot, count - 1) > behind and lot[-1] < count - 1


def lots_told(text, at, count):
    """The tuple (ascending tuple of one lot or more, told from the index on, index behind it)."""
    lot, at = lot_told(text, at, count, ())
    lots = [lot]
    # No lot is greater than that of the last place.
    while text[at:at + 1] == "," and lot != (count - 1,):
        lot, at = lot_told(text, at + 1, count, lot)
        lots.append(lot)
    return tuple(lots), at

"""The deeds of live webs, each a step from one state to the next one.

A *state* is a tuple (web, marks, row, next mark): the place x of the web has the mark at the index x of the marks,
which are ascending; the row is told by marks. Each deed is a function of a state and of its values that tells a tuple
(state, what the deed returns), or raises its error.
"""

from leaveorder.bare_rounds import bare_ring
from leaveorder.checks import check_number
from leaveorder.errors import InvalidLot, InvalidPlace, NotLeaving, Refused
from leaveorder.forms import is_ascending, is_int, is_text, is_tuple
from leaveorder.joining import joined_web, less_place, with_place
from leaveorder.leaving import first_order, is_leaving, is_order
from leaveorder.masks import lot_of, near_masks
from leaveorder.put_in import put_in_by
from leaveorder.swaps import with_swap
from leaveorder.webs import less_tie, pair_of, with_tie
from leaveorder.whole_lots import whole_lots


def come(state, marks):
    """A place comes, tied with these marks; its mark stands ahead of all others."""
    web, held, row, fresh = state
    if not is_tuple(marks) or not all([is_int(mark) and mark in held for mark in marks]) or not is_ascending(marks):
        raise InvalidLot("an ascending tuple of marks that are there is wanted")
    grown = with_place(web, tuple([held.index(mark) for mark in marks]))
    return (grown, (*held, fresh), (fresh, *row), fresh + 1), fresh


def leave(state, mark):
    """The place of the mark goes."""
    check_mark(state, mark)
    if state[0][0] == 1:
        raise Refused("it is the only place")
    return less_mark(state, state[0], mark), None


def tie(state, mark, other_mark):
    """The two are tied."""
    x, y = two_places(state, mark, other_mark)
    return (with_tie(state[0], x, y), *state[1:]), None


def untie(state, mark, other_mark):
    """The two are no longer tied."""
    x, y = two_places(state, mark, other_mark)
    check_tied(state, pair_of(x, y))
    return (less_tie(state[0], pair_of(x, y)), *state[1:]), None


def draw(state, mark, other_mark):
    """The place of the mark goes into that of the other one, which gets its ties with all others."""
    x, y = two_places(state, mark, other_mark)
    check_tied(state, pair_of(x, y))
    web = state[0]
    more = [(place, y) for place in lot_of(near_masks(web)[x]) if place != y]
    return less_mark(state, joined_web(web[0], [*web[1], *more]), mark), None


def move(state, mark, number):
    """The mark is put into the row such that so many marks stand ahead of it."""
    check_mark(state, mark)
    check_number(number)
    web, held, row, fresh = state
    if number >= len(row):
        raise Refused("there are not so many marks")
    others = [other for other in row if other != mark]
    return (web, held, (*others[:number], mark, *others[number:]), fresh), None


def ease(state):
    """Marks side by side are exchanged as long as this gives fewer put-in ties."""
    web, held, row, fresh = state
    near = near_masks(web)
    places = row_of_places(state)
    at = first_easing(near, places)
    if at is None:
        raise Refused("no exchange gives fewer put-in ties")
    count = 0
    while at is not None:
        places = with_swap(places, at)
        count += 1
        at = first_easing(near, places)
    return (web, held, marked(state, places), fresh), count


def clear(state):
    """The row becomes the first leaving order."""
    check_leaving_state(state)
    web, held, _, fresh = state
    return (web, held, marked(state, first_order(web)), fresh), None


DEEDS = {
    "come": come, "leave": leave, "tie": tie, "untie": untie, "draw": draw, "move": move, "ease": ease, "clear": clear,
}
VALUES = {"come": 1, "leave": 1, "tie": 2, "untie": 2, "draw": 2, "move": 2, "ease": 0, "clear": 0}


def is_deed_form(value):
    """Whether the value is a tuple of the name of a deed and as many values as it has."""
    if not is_tuple(value) or not value or not is_text(value[0]) or value[0] not in DEEDS:
        return False
    return len(value) - 1 == VALUES[value[0]]


def state_behind(state, deed):
    """The tuple (state behind the deed, what it returns)."""
    action = DEEDS[deed[0]]
    values = deed[1:]
    return action(state, *values)


def first_state(web):
    """The state of a web at the start."""
    marks = tuple(range(web[0]))
    return (web, marks, marks, web[0])


def leaving_state(state, name):
    """The state with the first leaving order as row, if its row is none behind the deed of this name.

    It raises NotLeaving if the web is no leaving one, and Refused if the deed is a move to a row that is no order.
    """
    check_leaving_state(state)
    web, held, _, fresh = state
    if is_order(web, row_of_places(state)):
        return state
    if name == "move":
        raise Refused("the row would be no leaving order")
    return (web, held, marked(state, first_order(web)), fresh)


def put_in_of(state):
    """The ascending tuple of the put-in ties of the row."""
    return tuple([marked(state, pair) for pair in put_in_by(near_masks(state[0]), row_of_places(state))[0]])


def numbers_of(state):
    """The tuple (number of put-in ties, width of the row, whether the web is a leaving one)."""
    ties, widest = put_in_by(near_masks(state[0]), row_of_places(state))
    return (len(ties), widest, is_leaving(state[0]))


def lots_of(state):
    """The ascending list of the whole lots of the web with the put-in ties."""
    web = state[0]
    ties = put_in_by(near_masks(web), row_of_places(state))[0]
    return [marked(state, lot) for lot in whole_lots(joined_web(web[0], [*web[1], *ties]))]


def marked(state, places):
    """The tuple of the marks of the places."""
    return tuple([state[1][place] for place in places])


def row_of_places(state):
    """The row, told by places."""
    return tuple([state[1].index(mark) for mark in state[2]])


def two_places(state, mark, other_mark):
    """The places of the two unlike marks."""
    check_mark(state, mark)
    check_mark(state, other_mark)
    if mark == other_mark:
        raise InvalidPlace("a mark that is not the first one is wanted")
    return (state[1].index(mark), state[1].index(other_mark))


def check_mark(state, mark):
    """Raise InvalidPlace unless the mark is there."""
    if not is_int(mark) or mark not in state[1]:
        raise InvalidPlace("a mark that is there is wanted")


def check_tied(state, pair):
    """Raise Refused unless this is a tie of the web."""
    if pair not in state[0][1]:
        raise Refused("the two are not tied")


def check_leaving_state(state):
    """Raise NotLeaving, with a bare round told by marks, unless the web is a leaving one."""
    ring = bare_ring(state[0])
    if ring is not None:
        raise NotLeaving(marked(state, ring))


def less_mark(state, web, mark):
    """The state with this web instead, and without the mark."""
    _, held, row, fresh = state
    others = tuple([other for other in held if other != mark])
    return (less_place(web, held.index(mark)), others, tuple([other for other in row if other != mark]), fresh)


def first_easing(near, row):
    """The first index at which an exchange of places side by side gives fewer put-in ties; None if there is none."""
    many = len(put_in_by(near, row)[0])
    for at in range(len(row) - 1):
        if len(put_in_by(near, with_swap(row, at))[0]) < many:
            return at
    return None

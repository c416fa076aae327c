"""The errors of parameters that several functions have, each raised in one place."""

from leaveorder.errors import InvalidCount, InvalidLot, InvalidPlace, InvalidRow, InvalidTie, InvalidWeb
from leaveorder.forms import is_int, is_lot_form, is_pair_form, is_row_form, is_web_form, is_within
from leaveorder.masks import hitch_of, near_masks


def check_web(web):
    """Raise InvalidWeb unless this is a web."""
    if not is_web_form(web):
        raise InvalidWeb("a web is wanted: a tuple (n, ties)")


def check_tie(web, tie):
    """Raise InvalidTie unless this is a tie of the web."""
    if not is_pair_form(web[0], tie) or tie not in web[1]:
        raise InvalidTie("a tie of the web is wanted")


def check_place(web, place):
    """Raise InvalidPlace unless this is a place of the web."""
    if not is_within(place, 0, web[0] - 1):
        raise InvalidPlace("a place of the web is wanted")


def check_other_place(web, place, other_place):
    """Raise InvalidPlace unless the other one is a place of the web and not the place."""
    check_place(web, other_place)
    if other_place == place:
        raise InvalidPlace("a place that is not the first one is wanted")


def check_lot(web, lot):
    """Raise InvalidLot unless this is a lot of places of the web, perhaps ()."""
    if not is_lot_form(web[0], lot):
        raise InvalidLot("an ascending tuple of places of the web is wanted")


def check_row(web, row):
    """Raise InvalidRow unless this is a tuple of all places of the web, each once."""
    if not is_row_form(web[0], row):
        raise InvalidRow("a tuple of all places of the web, each once, is wanted")


def check_order(web, order):
    """Raise InvalidRow unless this is a leaving order of the web."""
    check_row(web, order)
    if hitch_of(near_masks(web), order) is not None:
        raise InvalidRow("a leaving order of the web is wanted")


def check_number(number):
    """Raise InvalidCount unless this is an integer from 0 on."""
    if not is_int(number) or number < 0:
        raise InvalidCount("an integer from 0 on is wanted")

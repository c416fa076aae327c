"""The errors of parameters that several functions have, each raised in one place."""

from leaveorder.errors import InvalidLot, InvalidPlace, InvalidRow, InvalidTie, InvalidWeb
from leaveorder.forms import is_lot_form, is_pair_form, is_unlike_places, is_web_form, is_within


def check_web(web):
    """Raise InvalidWeb unless this is a web."""
    if not is_web_form(web):
        raise InvalidWeb("a web is wanted: a tuple (n, ties)")


def check_tie(web, tie):
    """Raise InvalidTie unless this is a tie of the web."""
    if not is_pair_form(web[0], tie) or tie not in web[1]:
        raise InvalidTie("a tie of the web is wanted")


def check_place(web, place):
    """Raise InvalidPlace unless this is a place of the web."""
    if not is_within(place, 0, web[0] - 1):
        raise InvalidPlace("a place of the web is wanted")


def check_other_place(web, place, other_place):
    """Raise InvalidPlace unless the other one is a place of the web and not the place."""
    check_place(web, other_place)
    if other_place == place:
        raise InvalidPlace("a place that is not the first one is wanted")


def check_lot(web, lot):
    """Raise InvalidLot unless this is a lot of places of the web, perhaps ()."""
    if not is_lot_form(web[0], lot):
        raise InvalidLot("an ascending tuple of places of the web is wanted")


def check_row(web, row):
    """Raise InvalidRow unless this is a tuple of all places of the web, each once."""
    if not is_unlike_places(web[0], row) or len(row) != web[0]:
        raise InvalidRow("a tuple of all places of the web, each once, is wanted")

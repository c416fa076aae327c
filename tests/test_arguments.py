"""[2], [3], [4]: wrong arguments and their sequence, names, new lists, unchanged arguments, time."""

import copy
import inspect
import time
import unittest
from itertools import combinations

from leaveorder import bare_rounds, errors, webs
from tests.at_hand import BIG, ODD_VALUES, bare_web, deep, full_web, large_webs, ring_web, two_sided_web

FAN = (4, ((0, 1), (0, 2), (0, 3), (1, 2), (2, 3)))
HOUSE = (5, ((0, 1), (0, 3), (0, 4), (1, 2), (1, 4), (2, 3)))

# Each function, its parameters and right arguments, all of them of the house.
CALLS = [
    (webs.neighbours, ("web", "place"), (HOUSE, 2)),
    (webs.is_tied, ("web", "lot"), (HOUSE, (0, 1))),
    (webs.is_apart, ("web", "lot"), (HOUSE, (0, 2))),
    (webs.pieces, ("web", "lot"), (HOUSE, (0, 2))),
    (webs.inner, ("web", "lot"), (HOUSE, (0, 2, 3))),
    (webs.renamed, ("web", "row"), (HOUSE, (4, 2, 0, 1, 3))),
    (webs.beside, ("web", "other_web"), (HOUSE, FAN)),
    (webs.with_tie, ("web", "place", "other_place"), (HOUSE, 4, 2)),
    (webs.less_tie, ("web", "tie"), (HOUSE, (1, 4))),
    (webs.mirrored, ("web",), (HOUSE,)),
    (webs.web_text, ("web",), (HOUSE,)),
    (bare_rounds.is_bare, ("web", "value"), (HOUSE, (0, 1, 2, 3))),
    (bare_rounds.bare_ring, ("web",), (HOUSE,)),
    (bare_rounds.bare_rings, ("web",), (HOUSE,)),
    (bare_rounds.least_bare, ("web",), (HOUSE,)),
    (bare_rounds.bare_through, ("web", "tie"), (HOUSE, (0, 3))),
    (bare_rounds.ring_told, ("web", "row"), (HOUSE, (3, 2, 1, 0))),
    (bare_rounds.ties_across, ("web", "row"), (HOUSE, (3, 2, 1, 4, 0))),
    (bare_rounds.bared, ("web", "row"), (HOUSE, (3, 2, 1, 4, 0))),
    (bare_rounds.rest, ("web",), (HOUSE,)),
    (bare_rounds.rest_among, ("web", "lot"), (HOUSE, (0, 1, 2, 3))),
    (bare_rounds.least_stuck, ("web",), (HOUSE,)),
]
ANY_VALUE = [(webs.is_web, ("value",), (HOUSE,)), (webs.web_told, ("text",), ("e:ab,de",))]

ERRORS = {
    "web": errors.InvalidWeb, "other_web": errors.InvalidWeb, "place": errors.InvalidPlace,
    "other_place": errors.InvalidPlace, "tie": errors.InvalidTie, "lot": errors.InvalidLot, "row": errors.InvalidRow,
}

WRONG_WEBS = ODD_VALUES + [
    (), (5,), 5, (5, [], ()), [5, ()], (5, []), (5, None), (0, ()), (13, ()), (True, ()), ("5", ()), (None, ()),
    (BIG, ()), (5, ((1, 0),)), (5, ((0, 0),)), (5, ((0, 5),)), (5, ((0, 1), (0, 1))), (5, ((0, 2), (0, 1))),
    (5, ([0, 1],)), (5, ((0, True),)), (5, ((0, BIG),)), (5, (deep(tuple),)), (5, deep(list)), "e:ab",
]
WRONG_PLACES = ODD_VALUES + [5, (0,), "2", (2,), [2], HOUSE]
WRONG_LOTS = ODD_VALUES + [
    (1, 0), (0, 0), (0, 5), (0, 1, 1), [0, 2], (0, True), (0, (1,)), (0, 2, None), (0, 1, 2, 3, 4, 5), HOUSE, 0,
]
WRONG_ROWS = ODD_VALUES + [
    (), (0,), (0, 1, 2, 3, 4, 5), (0, 1, 2, 3, 3), (0, 1, 2, 3, 5), (-1, 0, 1, 2, 3), (False, 1, 2, 3, 4),
    (0, True, 2, 3, 4), [0, 1, 2, 3, 4], [3, 2, 1, 0], (0, 1, 2, 3, BIG), (0, 1, 2, 3, (4,)), (0, 1, 2, 3, "e"), 0,
    (0, 1, 2, 3, None), (0, 1, 2, 3, deep(list)), HOUSE, (1, 2, 3), (0, 1, 4), (0, 1, 2, 3, 4, 0),
]
WRONG_TIES = ODD_VALUES + [
    (0, 2), (2, 4), (1, 0), (3, 0), (0, 0), [0, 1], (0, True), (False, 1), (0, 1, 4), (0,), (), (4, 5), 0, HOUSE,
    ((0, 1),), (0, 5), (True, 2), (1, 4, None),
]


def wrong_values(function, name):
    """Wrong arguments for the parameter of the function, if all else is as in the list of calls."""
    wrong = {
        "web": WRONG_WEBS, "other_web": WRONG_WEBS, "place": WRONG_PLACES, "other_place": WRONG_PLACES + [4],
        "tie": WRONG_TIES, "lot": WRONG_LOTS, "row": WRONG_ROWS,
    }[name]
    if name == "lot" and function is webs.inner:
        return wrong + [()]
    if name == "row":
        # A row of four places is right for a round; one that does not go round is right for renamed.
        return wrong + ([(0, 1, 2, 3)] if function is webs.renamed else [(0, 1, 2, 4), (0, 1, 2, 3, 4), (0, 1, 3, 4)])
    return wrong


class WrongArgumentsTest(unittest.TestCase):

    def raised(self, function, arguments):
        """The error that the call raises; it must leave the arguments as they are."""
        kept = copy.deepcopy(arguments)
        with self.assertRaises(errors.LeaveError, msg=(function.__name__, arguments)) as caught:
            function(*arguments)
        self.assertEqual(arguments, kept)
        self.assertEqual(repr(arguments), repr(kept))
        return type(caught.exception)

    def test_each_wrong_argument_alone(self):
        for function, names, right in CALLS:
            for at, name in enumerate(names):
                for wrong in wrong_values(function, name) if name in ERRORS else ():
                    arguments = [*right[:at], wrong, *right[at + 1:]]
                    self.assertIs(self.raised(function, arguments), ERRORS[name], (function.__name__, name, wrong))

    def test_two_wrong_arguments(self):
        for function, names, right in CALLS:
            for i, j in combinations(range(len(names)), 2):
                if names[i] not in ERRORS or names[j] not in ERRORS:
                    continue
                for wrong in wrong_values(function, names[i])[::3]:
                    for other in wrong_values(function, names[j])[::4]:
                        arguments = list(right)
                        arguments[i], arguments[j] = wrong, other
                        self.assertIs(self.raised(function, arguments), ERRORS[names[i]], (function.__name__, arguments))

    def test_all_arguments_wrong(self):
        for function, names, _ in CALLS:
            for wrong in (None, True, "a", [], BIG, deep(list)):
                self.assertIs(self.raised(function, [wrong] * len(names)), errors.InvalidWeb)

    def test_a_wrong_web_beside_any_value(self):
        for wrong in WRONG_WEBS:
            for value in ODD_VALUES[::6]:
                self.assertIs(self.raised(bare_rounds.is_bare, [wrong, value]), errors.InvalidWeb)

    def test_errors_of_the_parameters_ahead_of_those_of_the_point(self):
        big = bare_web(12)
        for wrong in WRONG_WEBS:
            self.assertIs(self.raised(webs.beside, [big, wrong]), errors.InvalidWeb)
            self.assertIs(self.raised(webs.beside, [wrong, big]), errors.InvalidWeb)
        self.assertIs(self.raised(webs.beside, [big, big]), errors.TooMany)
        self.assertIs(self.raised(webs.with_tie, [HOUSE, 0, 1]), errors.Refused)
        self.assertIs(self.raised(webs.with_tie, [HOUSE, 0, 0]), errors.InvalidPlace)
        self.assertIs(self.raised(webs.with_tie, [(5, [(0, 1)]), 0, 1]), errors.InvalidWeb)
        self.assertIs(self.raised(bare_rounds.bare_rings, [(11, [])]), errors.InvalidWeb)
        self.assertIs(self.raised(bare_rounds.bare_rings, [(11, ())]), errors.TooMany)

    def test_places_of_the_edges(self):
        for count in (1, 12):
            for place in (-1, count, count + 1, BIG, -BIG, True, None, (0,)):
                self.assertIs(self.raised(webs.neighbours, [full_web(count), place]), errors.InvalidPlace)
                self.assertIs(self.raised(webs.pieces, [full_web(count), (place,)]), errors.InvalidLot)
                self.assertIs(self.raised(bare_rounds.rest_among, [full_web(count), (place,)]), errors.InvalidLot)
        self.assertIs(self.raised(webs.with_tie, [bare_web(1), 0, 0]), errors.InvalidPlace)
        self.assertIs(self.raised(webs.less_tie, [bare_web(12), (0, 1)]), errors.InvalidTie)
        self.assertIs(self.raised(bare_rounds.bare_through, [bare_web(1), (0, 1)]), errors.InvalidTie)
        self.assertIs(self.raised(webs.renamed, [bare_web(1), ()]), errors.InvalidRow)
        self.assertIs(self.raised(webs.renamed, [bare_web(1), (False,)]), errors.InvalidRow)

    def test_objects_of_subclasses(self):
        class Number(int):
            pass

        class Row(tuple):
            pass

        class Words(str):
            pass

        self.assertIs(self.raised(webs.neighbours, [HOUSE, Number(2)]), errors.InvalidPlace)
        self.assertIs(self.raised(webs.pieces, [HOUSE, Row((0, 2))]), errors.InvalidLot)
        self.assertIs(self.raised(webs.pieces, [HOUSE, (0, Number(2))]), errors.InvalidLot)
        self.assertIs(self.raised(webs.less_tie, [HOUSE, Row((0, 1))]), errors.InvalidTie)
        self.assertIs(self.raised(webs.less_tie, [HOUSE, (0, Number(1))]), errors.InvalidTie)
        self.assertIs(self.raised(webs.renamed, [FAN, Row((0, 1, 2, 3))]), errors.InvalidRow)
        self.assertIs(self.raised(webs.web_told, [Words("a:")]), errors.InvalidText)
        self.assertIs(bare_rounds.is_bare(HOUSE, Row((0, 1, 2, 3))), False)


class CallsTest(unittest.TestCase):

    def test_names_and_files(self):
        for function, names, _ in CALLS + ANY_VALUE:
            self.assertEqual(tuple(inspect.signature(function).parameters), names, function.__name__)
            self.assertTrue(inspect.isfunction(function))
        listed = {webs: "leaveorder.webs", bare_rounds: "leaveorder.bare_rounds"}
        for module, file in listed.items():
            for function, _, _ in CALLS + ANY_VALUE:
                if getattr(module, function.__name__, None) is function:
                    self.assertEqual(function.__module__, file)
        defaults = [(function.__name__, inspect.signature(function).parameters["lot"].default)
                    for function, names, _ in CALLS if "lot" in names]
        self.assertEqual([name for name, value in defaults if value == ()], ["pieces"])

    def test_by_name_as_by_position(self):
        for function, names, right in CALLS + ANY_VALUE:
            told = function(*right)
            self.assertEqual(function(**dict(zip(names, right))), told)
            self.assertEqual(function(*right[:1], **dict(zip(names[1:], right[1:]))), told)
        self.assertEqual(webs.pieces(web=HOUSE), [(0, 1, 2, 3, 4)])

    def test_no_argument_is_changed(self):
        for function, _, right in CALLS + ANY_VALUE:
            kept = copy.deepcopy(right)
            function(*right)
            self.assertEqual(right, kept)
        for value in ODD_VALUES:
            kept = copy.deepcopy(value)
            webs.is_web(value)
            bare_rounds.is_bare(HOUSE, value)
            self.assertEqual(repr(value), repr(kept))

    def test_lists_are_new(self):
        for function, arguments in (
                (webs.pieces, (HOUSE, (0, 2))), (webs.pieces, (HOUSE,)), (bare_rounds.bare_rings, (HOUSE,)),
                (bare_rounds.bare_rings, (FAN,)), (webs.pieces, (bare_web(1), (0,)))):
            first = function(*arguments)
            told = copy.deepcopy(first)
            first.append("more")
            first[0] = None
            self.assertEqual(function(*arguments), told)
            self.assertIsNot(function(*arguments), function(*arguments))

    def test_kinds_of_what_is_told(self):
        for function, names, right in CALLS:
            told = function(*right)
            if function.__name__.startswith("is_"):
                self.assertIs(type(told), bool)
            elif function in (webs.pieces, bare_rounds.bare_rings):
                self.assertIs(type(told), list)
            elif function is webs.web_text:
                self.assertIs(type(told), str)
            else:
                self.assertTrue(plain(told), (function.__name__, told))

    def test_equal_arguments_equal_results(self):
        for function, _, right in CALLS:
            self.assertEqual(function(*right), function(*copy.deepcopy(right)))

    def test_twelve_places_take_no_long_time(self):
        every = tuple(range(12))
        for web in [web for web in large_webs() if web[0] == 12] + [full_web(12), two_sided_web(12), ring_web(12)]:
            begun = time.monotonic()
            for function in (bare_rounds.bare_ring, bare_rounds.least_bare, bare_rounds.rest, bare_rounds.least_stuck,
                             webs.pieces, webs.mirrored, webs.web_text):
                function(web)
            for tie in web[1]:
                bare_rounds.bare_through(web, tie)
            bare_rounds.rest_among(web, every)
            webs.is_tied(web, every)
            self.assertLess(time.monotonic() - begun, 5)
        bare_rounds.bared(full_web(12), every)


def plain(value):
    """Whether the value has only tuples and integers, or is None."""
    if type(value) is tuple:
        return all(plain(part) for part in value)
    return value is None or type(value) is int


if __name__ == "__main__":
    unittest.main()

"""[2], [3], [4]: wrong arguments and their sequence, names, new lists, unchanged arguments."""

import copy
import inspect
import unittest
from itertools import combinations

from leaveorder import (bare_rounds, covers, dyes, errors, fillings, joining, leaving, lot_trees, orders, paper_texts,
                        partings, starts, stretches, subtrees, swaps, tables, webs, whole_lots, widths)
from tests.at_hand import BIG, ODD_VALUES, bare_web, deep, full_web, ring_web
from tests.calls import ANY_VALUE, CALLS, LISTS, MODULES
from tests.wrong import (DYEING, ERRORS, FAMILY, FAN, HOST, HOUSE, ORDER, OTHER_TREE, SPREAD, TREE, TWIG, WRONG_HOSTS,
                         WRONG_WEBS, wrong_values)

# Joining trees of the twig's whole lots that are no lot trees, as the places 3 and 0 tell.
NO_TREE, OTHER_NO_TREE = ((0, 1), (0, 2), (0, 3)), ((0, 3), (1, 3), (2, 3))
SPIDER = (7, ((0, 1), (0, 2), (0, 3), (1, 4), (2, 5), (3, 6)))
# A family of the round of four that does not agree.
CLASHING = ((1, 1, 1, 1), (1, 1, 1, 1), (1, 1, 1, 1), (1, 1, 1, 2))


class WrongArgumentsTest(unittest.TestCase):

    def raised(self, function, arguments):
        """The error that the call raises; it must leave the arguments as they are."""
        kept = copy.deepcopy(arguments)
        with self.assertRaises(errors.LeaveError, msg=(function.__name__, arguments)) as caught:
            function(*arguments)
        self.assertEqual(arguments, kept)
        self.assertEqual(repr(arguments), repr(kept))
        return type(caught.exception)

    def test_each_wrong_argument_alone(self):
        for function, names, right in CALLS:
            for at, name in enumerate(names):
                for wrong in wrong_values(function, names, right, name) if name in ERRORS else ():
                    arguments = [*right[:at], wrong, *right[at + 1:]]
                    self.assertIs(self.raised(function, arguments), ERRORS[name], (function.__name__, name, wrong))

    def test_two_wrong_arguments(self):
        for function, names, right in CALLS:
            for i, j in combinations(range(len(names)), 2):
                if names[i] not in ERRORS or names[j] not in ERRORS:
                    continue
                for wrong in wrong_values(function, names, right, names[i])[::3]:
                    for other in wrong_values(function, names, right, names[j])[::4]:
                        arguments = list(right)
                        arguments[i], arguments[j] = wrong, other
                        self.assertIs(self.raised(function, arguments), ERRORS[names[i]], (function.__name__, arguments))

    def test_all_arguments_wrong(self):
        for function, names, _ in CALLS:
            for wrong in (None, True, "a", [], BIG, deep(list)):
                self.assertIs(self.raised(function, [wrong] * len(names)), ERRORS[names[0]])

    def test_a_wrong_web_beside_any_value(self):
        for wrong in WRONG_WEBS:
            for value in ODD_VALUES[::6]:
                for function in (bare_rounds.is_bare, leaving.is_order, lot_trees.is_lot_tree):
                    self.assertIs(self.raised(function, [wrong, value]), errors.InvalidWeb)
                self.assertIs(self.raised(lot_trees.is_tree_row, [wrong, TREE, TREE, value]), errors.InvalidWeb)
                self.assertIs(self.raised(subtrees.is_spread_of, [wrong, value]), errors.InvalidWeb)
        for wrong in WRONG_HOSTS:
            for value in ODD_VALUES[::6]:
                self.assertIs(self.raised(subtrees.is_spread, [wrong, value]), errors.InvalidHost)

    def test_errors_of_the_parameters_ahead_of_those_of_the_point(self):
        big = bare_web(12)
        for wrong in WRONG_WEBS:
            self.assertIs(self.raised(webs.beside, [big, wrong]), errors.InvalidWeb)
            self.assertIs(self.raised(webs.beside, [wrong, big]), errors.InvalidWeb)
        self.assertIs(self.raised(webs.beside, [big, big]), errors.TooMany)
        self.assertIs(self.raised(webs.with_tie, [HOUSE, 0, 1]), errors.Refused)
        self.assertIs(self.raised(webs.with_tie, [HOUSE, 0, 0]), errors.InvalidPlace)
        self.assertIs(self.raised(webs.with_tie, [(5, [(0, 1)]), 0, 1]), errors.InvalidWeb)
        self.assertIs(self.raised(bare_rounds.bare_rings, [(11, [])]), errors.InvalidWeb)
        self.assertIs(self.raised(bare_rounds.bare_rings, [(11, ())]), errors.TooMany)

    def test_errors_of_the_point_in_its_sequence(self):
        ring, big_ring = ring_web(4), ring_web(12)
        for function, arguments, error in (
                (leaving.order_ending, (ring, (0, 1, 2)), errors.NotTied),
                (leaving.order_ending, (ring, [0, 2]), errors.InvalidLot),
                (leaving.order_ending, (ring, (0, 1)), errors.NotLeaving),
                (leaving.order_ending, (FAN, (1, 3)), errors.NotTied),
                (whole_lots.heads, (ring, (0, 1, 2, 3)), errors.InvalidRow),
                (partings.least_in, (ring, (0, 1), 0, 2), errors.NotParting),
                (partings.least_in, (ring, (0, 1), 0, 0), errors.InvalidPlace),
                (partings.least_in, (ring, (1, 0), 0, 0), errors.InvalidLot),
                (lot_trees.trees, (big_ring,), errors.NotLeaving),
                (lot_trees.trees, (bare_web(7),), errors.TooMany),
                (lot_trees.nth_tree, (big_ring, -1), errors.InvalidCount),
                (lot_trees.nth_tree, (big_ring, BIG), errors.NotLeaving),
                (lot_trees.tree_number, (ring, ((0, 1), (0, 2), (1, 3))), errors.NotTree),
                (lot_trees.tree_number, (TWIG, NO_TREE), errors.NotTree),
                (lot_trees.way_meets, (TWIG, NO_TREE, 0, 0), errors.InvalidPlace),
                (lot_trees.way_meets, (TWIG, NO_TREE, 0, 1), errors.NotTree),
                (lot_trees.tree_exchanges, (TWIG, NO_TREE), errors.NotTree),
                (lot_trees.tree_exchanged, (TWIG, NO_TREE, (0, 1), (0, 4)), errors.InvalidBranch),
                (lot_trees.tree_exchanged, (TWIG, NO_TREE, (1, 0), (0, 1)), errors.InvalidBranch),
                (lot_trees.tree_exchanged, (TWIG, NO_TREE, (0, 1), (0, 1)), errors.NotTree),
                (lot_trees.tree_exchanged, (TWIG, NO_TREE, (0, 3), (2, 3)), errors.NotTree),
                (lot_trees.tree_exchanged, (TWIG, TREE, (0, 1), (0, 1)), errors.Refused),
                (lot_trees.tree_row, (TWIG, NO_TREE, ((0, 1),)), errors.InvalidTree),
                (lot_trees.tree_row, (TWIG, TREE, NO_TREE), errors.NotTree),
                (lot_trees.is_tree_row, (TWIG, NO_TREE, ((0, 1),), []), errors.InvalidTree),
                (subtrees.common_spots, (HOST, SPREAD, ()), errors.InvalidLot),
                (subtrees.common_spots, (HOST, ((), (0,)), ()), errors.InvalidSpread),
                (subtrees.common_spots, (HOST, SPREAD[:2], (0, 2)), errors.InvalidLot),
                (subtrees.spread_of, (big_ring,), errors.NotLeaving),
                (orders.order_number, (ring, (0, 1, 2, 3)), errors.InvalidRow),
                (orders.next_order, (ring, (0, 1, 2, 3)), errors.InvalidRow),
                (orders.ahead_count, (ring, 2, 2), errors.InvalidPlace),
                (starts.start_count, (ring,), errors.NotLeaving),
                (starts.starts, (ring,), errors.NotLeaving),
                (starts.starts, (big_ring,), errors.NotLeaving),
                (starts.starts, (bare_web(9),), errors.TooMany),
                (starts.stay_over, (ring, (1, 0)), errors.InvalidLot),
                (starts.free_in, (ring, (4,)), errors.InvalidLot),
                (starts.order_staying, (ring, [0]), errors.InvalidLot),
                (starts.is_start, (ring, [0]), errors.InvalidLot),
                (starts.stay_over, (ring, ()), errors.NotLeaving),
                (starts.free_in, (ring, ()), errors.NotLeaving),
                (starts.order_staying, (ring, (0, 2)), errors.NotLeaving),
                (swaps.swapped, (TWIG, ORDER, 4), errors.Refused),
                (swaps.swapped, (TWIG, ORDER, BIG), errors.Refused),
                (swaps.swapped, (TWIG, ORDER, 1), errors.Refused),
                (swaps.swapped, (TWIG, (0, 1, 2, 3, 4), -1), errors.InvalidRow),
                (swaps.fewest_swaps, (ring, (0, 1, 2, 3), (0, 1, 2, 3)), errors.InvalidRow),
                (swaps.is_swap_row, (ring, (0, 1, 2, 3), (0, 1, 2, 3), []), errors.InvalidRow),
                (dyes.dyed_back, (ring, (0, 1, 2, 3)), errors.InvalidRow),
                (dyes.dyeing_count, (ring, 1001), errors.InvalidCount),
                (dyes.dyeing_count, (ring, 0), errors.NotLeaving),
                (dyes.first_dyeing, (ring, 0), errors.NotLeaving),
                (dyes.nth_dyeing, (ring, 2, -1), errors.InvalidCount),
                (dyes.nth_dyeing, (ring, 0, BIG), errors.NotLeaving),
                (dyes.dyeing_number, (ring, 2, (0, 0, 1, 1)), errors.InvalidDyeing),
                (dyes.dyeing_number, (ring, 2, (0, 1, 0, 1)), errors.NotLeaving),
                (dyes.exchanged, (ring, 2, (0, 1, 0, 1), 4, 2), errors.InvalidPlace),
                (dyes.exchanged, (ring, 2, (0, 1, 0, 1), 1, 1), errors.InvalidDye),
                (dyes.exchanged, (ring, 2, (0, 1, 0, 1), 1, 0), errors.NotLeaving),
                (dyes.exchange_row, (ring, 2, (0, 1, 0, 1), (0, 1, 0, 0)), errors.InvalidDyeing),
                (dyes.exchange_row, (ring, 2, (0, 1, 0, 1), (0, 1, 0, 1)), errors.NotLeaving),
                (dyes.is_exchange_row, (ring, 2, (0, 1, 0, 1), (0, 1, 0, 1), None), errors.NotLeaving),
                (dyes.is_exchange_row, (ring, 2, (0, 1, 0, 1), (0, 1, 0, 2), None), errors.InvalidDyeing),
                (dyes.dyeing_number, (TWIG, 0, ()), errors.InvalidDyeing),
                (covers.apart_along, (ring, (0, 1, 2, 3)), errors.InvalidRow),
                (covers.weight_paper, (ring, (0, 0, 0, -1)), errors.InvalidWeights),
                (covers.weight_paper, (ring, (0, 0, 0, 0)), errors.NotLeaving),
                (covers.apart_number, (ring, (0, 1, 4)), errors.InvalidLot),
                (covers.apart_number, (ring, (0, 1)), errors.NotApart),
                (fillings.spare_ties, (ring, ((0, 1),)), errors.InvalidTies),
                (fillings.spare_ties, (ring, ()), errors.NotFilling),
                (fillings.least_within, (ring, ()), errors.NotFilling),
                (fillings.row_for, (ring, ()), errors.NotFilling),
                (fillings.lots_of_filling, (ring, ()), errors.NotFilling),
                (fillings.least_fillings, (bare_web(8),), errors.TooMany),
                (fillings.least_fillings, ((8, []),), errors.InvalidWeb),
                (widths.widest_thicket, (bare_web(9),), errors.TooMany),
                (stretches.row_stretches, (ring, (0, 1, 2, 3)), errors.InvalidRow),
                (stretches.row_stretches, (bare_web(1), ()), errors.InvalidRow),
                (stretches.nth_lot_row, (ring, -1), errors.InvalidCount),
                (stretches.stretches, (ring,), errors.NotLeaving),
                (stretches.even_order, (ring,), errors.NotLeaving),
                (stretches.even_order, (SPIDER,), errors.NotStretched),
                (stretches.stretches, (SPIDER,), errors.NotStretched),
                (stretches.even_order, (TWIG,), errors.NotEven),
                (stretches.is_apart_three, (ring, (0, 1, 2, 4)), errors.InvalidLot),
                (tables.family_of, ((9, []), ()), errors.InvalidWeb),
                (tables.family_of, (bare_web(9), ()), errors.TooMany),
                (tables.family_of, (bare_web(8), ()), errors.InvalidTables),
                (tables.whole_table, (ring, ((1,) * 4,) * 3), errors.InvalidTables),
                (tables.whole_table, (ring, CLASHING), errors.NotLeaving),
                (tables.whole_table, (bare_web(9), ((1, 1),) * 8 + ((1, 2),)), errors.NotAgreeing),
                (tables.whole_table, (bare_web(9), ((1, 1),) * 9), errors.TooMany),
                (tables.whole_table, (big_ring, ((1,) * 4,) * 12), errors.NotLeaving),
                (tables.weight_at, (ring, CLASHING, (0, 0, 0, 2)), errors.InvalidRow),
                (tables.weight_at, (ring, CLASHING, (0, 0, 0, 1)), errors.NotLeaving),
                (tables.weight_at, (TWIG, ((1,) * 4,) * 3 + ((2,) * 4,), (0,) * 5), errors.NotAgreeing),
                (tables.sums_within, (ring, CLASHING, (1, 0)), errors.InvalidLot),
                (tables.sums_within, (ring, CLASHING, (0, 1)), errors.NotLeaving),
                (tables.sums_within, (bare_web(7), ((1, 1),) * 6 + ((1, 2),), tuple(range(7))), errors.NotAgreeing),
                (tables.sums_within, (bare_web(7), ((1, 1),) * 7, tuple(range(7))), errors.TooMany),
                (tables.sums_within, (bare_web(7), ((1, 1),) * 7, tuple(range(8))), errors.InvalidLot),
                (tables.heaviest_row, (ring, CLASHING), errors.NotLeaving),
                (tables.heaviest_row, (TWIG, ((1,) * 4,) * 3 + ((2,) * 4,)), errors.NotAgreeing),
                (tables.is_whole_table, (bare_web(9), ((1, 1),) * 8, None), errors.InvalidTables),
                (tables.is_whole_table, (bare_web(9), ((1, 1),) * 9, None), errors.TooMany),
                (tables.torn_family, (bare_web(11),), errors.TooMany),
                (tables.torn_denial, (big_ring,), errors.TooMany),
                (tables.torn_family, ((11, []),), errors.InvalidWeb),
                (joining.glued, (ring, ring, (0, 1, 2), (0, 4)), errors.InvalidLot),
                (joining.glued, (ring, ring, (0, 1, 2), (0, 1, 2)), errors.NotTied),
                (joining.glued, (ring, ring, (0, 1), (0, 2)), errors.InvalidLot),
                (joining.glued, (ring, ring, (0, 1), (0,)), errors.InvalidLot),
                (joining.glued, (big_ring, ring, (0, 1), (0,)), errors.InvalidLot),
                (joining.glued, (big_ring, ring, (0, 2), (0, 2)), errors.NotTied),
                (joining.glued, (big_ring, ring, (0, 1), (0, 1)), errors.TooMany),
                (joining.with_place, (big_ring, (1, 0)), errors.InvalidLot),
                (joining.with_place, (big_ring, ()), errors.TooMany),
                (joining.less_place, (bare_web(1), 1), errors.InvalidPlace),
                (joining.less_place, (bare_web(1), 0), errors.InvalidPlace),
                (joining.put_in, (big_ring, 12, None), errors.InvalidPlace),
                (joining.put_in, (big_ring, 0, None), errors.InvalidWeb),
                (joining.put_in, (big_ring, 0, bare_web(2)), errors.TooMany),
                (joining.joined_all, (big_ring, bare_web(1)), errors.TooMany),
                (joining.joined_all, (big_ring, None), errors.InvalidWeb),
                (joining.power, (ring, 12), errors.InvalidCount),
                (paper_texts.paper_text, (("order", ring, (0, 1, 2, 3)),), errors.InvalidPaper)):
            self.assertIs(self.raised(function, list(arguments)), error, (function.__name__, arguments))

    def test_of_two_trees_that_are_none_the_first_one_is_told(self):
        for first, second, place in ((NO_TREE, OTHER_NO_TREE, 3), (OTHER_NO_TREE, NO_TREE, 0), (TREE, NO_TREE, 3),
                                     (OTHER_NO_TREE, TREE, 0), (TREE, OTHER_NO_TREE, 0)):
            with self.assertRaises(errors.NotTree) as caught:
                lot_trees.tree_row(TWIG, first, second)
            self.assertEqual(caught.exception.place, place)

    def test_places_of_the_edges(self):
        for count in (1, 12):
            for place in (-1, count, count + 1, BIG, -BIG, True, None, (0,)):
                self.assertIs(self.raised(webs.neighbours, [full_web(count), place]), errors.InvalidPlace)
                self.assertIs(self.raised(webs.pieces, [full_web(count), (place,)]), errors.InvalidLot)
                self.assertIs(self.raised(bare_rounds.rest_among, [full_web(count), (place,)]), errors.InvalidLot)
        self.assertIs(self.raised(webs.with_tie, [bare_web(1), 0, 0]), errors.InvalidPlace)
        self.assertIs(self.raised(webs.less_tie, [bare_web(12), (0, 1)]), errors.InvalidTie)
        self.assertIs(self.raised(bare_rounds.bare_through, [bare_web(1), (0, 1)]), errors.InvalidTie)
        self.assertIs(self.raised(webs.renamed, [bare_web(1), ()]), errors.InvalidRow)
        self.assertIs(self.raised(webs.renamed, [bare_web(1), (False,)]), errors.InvalidRow)
        self.assertIs(self.raised(whole_lots.heads, [bare_web(1), (False,)]), errors.InvalidRow)
        self.assertIs(self.raised(partings.partings_of, [bare_web(1), 0, 0]), errors.InvalidPlace)
        self.assertIs(self.raised(lot_trees.meets, [bare_web(1), ((0, 1),)]), errors.InvalidTree)
        self.assertIs(self.raised(lot_trees.tree_exchanged, [full_web(12), (), (0, 1), (0, 1)]), errors.InvalidBranch)

    def test_objects_of_subclasses(self):
        class Number(int):
            pass

        class Row(tuple):
            pass

        class Words(str):
            pass

        self.assertIs(self.raised(webs.neighbours, [HOUSE, Number(2)]), errors.InvalidPlace)
        self.assertIs(self.raised(webs.pieces, [HOUSE, Row((0, 2))]), errors.InvalidLot)
        self.assertIs(self.raised(webs.pieces, [HOUSE, (0, Number(2))]), errors.InvalidLot)
        self.assertIs(self.raised(webs.less_tie, [HOUSE, Row((0, 1))]), errors.InvalidTie)
        self.assertIs(self.raised(webs.less_tie, [HOUSE, (0, Number(1))]), errors.InvalidTie)
        self.assertIs(self.raised(webs.renamed, [FAN, Row((0, 1, 2, 3))]), errors.InvalidRow)
        self.assertIs(self.raised(webs.web_told, [Words("a:")]), errors.InvalidText)
        self.assertIs(bare_rounds.is_bare(HOUSE, Row((0, 1, 2, 3))), False)
        self.assertIs(leaving.is_order(TWIG, Row((1, 2, 0, 3, 4))), False)
        self.assertIs(self.raised(whole_lots.heads, [TWIG, Row((1, 2, 0, 3, 4))]), errors.InvalidRow)
        self.assertIs(self.raised(lot_trees.nth_tree, [TWIG, Number(0)]), errors.InvalidCount)
        self.assertIs(self.raised(lot_trees.meets, [TWIG, Row(TREE)]), errors.InvalidTree)
        self.assertIs(self.raised(lot_trees.meets, [TWIG, (Row(TREE[0]), *TREE[1:])]), errors.InvalidTree)
        self.assertIs(self.raised(lot_trees.tree_exchanged, [TWIG, TREE, Row((0, 1)), (1, 2)]), errors.InvalidBranch)
        self.assertIs(self.raised(lot_trees.tree_exchanged, [TWIG, TREE, (0, 1), (1, Number(2))]), errors.InvalidBranch)
        self.assertIs(lot_trees.is_lot_tree(TWIG, Row(TREE)), False)
        self.assertIs(subtrees.is_host(Row(HOST)), False)
        self.assertIs(subtrees.is_spread(HOST, Row(SPREAD)), False)
        self.assertIs(subtrees.is_spread(HOST, (*SPREAD, Row((0,)))), False)
        self.assertIs(subtrees.is_spread(HOST, (*SPREAD, (Number(0),))), False)
        self.assertIs(self.raised(subtrees.order_from, [HOST, SPREAD, Number(0)]), errors.InvalidPlace)
        self.assertIs(self.raised(orders.order_number, [TWIG, Row((1, 2, 0, 3, 4))]), errors.InvalidRow)
        self.assertIs(self.raised(starts.stay_over, [TWIG, Row((0,))]), errors.InvalidLot)
        self.assertIs(self.raised(dyes.dyeing_count, [TWIG, Number(3)]), errors.InvalidCount)
        self.assertIs(self.raised(dyes.exchanged, [TWIG, 3, DYEING, 0, Number(1)]), errors.InvalidDye)
        self.assertIs(self.raised(dyes.dyeing_number, [TWIG, 3, Row(DYEING)]), errors.InvalidDyeing)
        self.assertIs(self.raised(covers.heaviest_apart, [TWIG, Row((0,) * 5)]), errors.InvalidWeights)
        self.assertIs(self.raised(fillings.filled, [HOUSE, Row(((0, 2),))]), errors.InvalidTies)
        self.assertIs(self.raised(fillings.filled, [HOUSE, (Row((0, 2)),)]), errors.InvalidTies)
        self.assertIs(self.raised(fillings.filling_by_lots, [HOUSE, (Row((0, 2)),)]), errors.InvalidLot)
        self.assertIs(fillings.is_calm(HOUSE, Row(((0, 1),))), False)
        self.assertIs(self.raised(widths.meeting_lot, [HOUSE, Row(((0,),))]), errors.InvalidThicket)
        self.assertIs(self.raised(stretches.web_of_stretches, [(Row((0, 1)),)]), errors.InvalidStretches)
        self.assertIs(self.raised(stretches.web_of_stretches, [((0, Number(1)),)]), errors.InvalidStretches)
        self.assertIs(self.raised(tables.clash, [TWIG, Row(FAMILY)]), errors.InvalidTables)
        self.assertIs(self.raised(tables.clash, [TWIG, (*FAMILY[:3], (1, 0, 1, Number(2)))]), errors.InvalidTables)
        self.assertIs(stretches.is_lot_row(TWIG, Row((0, 1, 2, 3))), False)
        self.assertIs(covers.is_cover(TWIG, Row((0, 1, 2, 3))), False)

        class Steps(list):
            pass

        self.assertIs(lot_trees.is_tree_row(TWIG, TREE, TREE, []), True)
        self.assertIs(lot_trees.is_tree_row(TWIG, TREE, TREE, Steps()), False)
        self.assertIs(lot_trees.is_tree_row(TWIG, TREE, OTHER_TREE, [Row(((0, 1), (1, 2)))]), False)
        self.assertIs(swaps.is_swap_row(TWIG, ORDER, ORDER, Steps()), False)
        self.assertIs(swaps.is_swap_row(TWIG, ORDER, (2, 1, 0, 3, 4), [Number(0)]), False)
        self.assertIs(dyes.is_exchange_row(TWIG, 3, DYEING, DYEING, Steps()), False)


class CallsTest(unittest.TestCase):

    def test_names_and_files(self):
        for function, names, _ in CALLS + ANY_VALUE:
            self.assertEqual(tuple(inspect.signature(function).parameters), names, function.__name__)
            self.assertTrue(inspect.isfunction(function))
            self.assertIn(function.__module__, [module.__name__ for module in MODULES])
        defaults = [function.__name__ for function, names, _ in CALLS for parameter in
                    inspect.signature(function).parameters.values() if parameter.default is not parameter.empty]
        self.assertEqual(defaults, ["pieces", "may_leave"])

    def test_each_function_of_the_files_is_in_the_list_of_calls(self):
        listed = [(function.__module__, function.__name__) for function, _, _ in CALLS + ANY_VALUE]
        self.assertEqual(len(listed), len(set(listed)))
        for name, count in (("webs", 13), ("leaving", 7), ("bare_rounds", 11), ("whole_lots", 6), ("partings", 10),
                            ("lot_trees", 16), ("subtrees", 11), ("orders", 6), ("starts", 6), ("swaps", 5), ("dyes", 12),
                            ("covers", 12), ("fillings", 14), ("widths", 7), ("stretches", 17), ("tables", 10),
                            ("joining", 9), ("paper_texts", 3)):
            self.assertEqual(len([1 for module, _ in listed if module == "leaveorder." + name]), count, name)

    def test_by_name_as_by_position(self):
        for function, names, right in CALLS + ANY_VALUE:
            told = function(*right)
            self.assertEqual(function(**dict(zip(names, right))), told)
            self.assertEqual(function(*right[:1], **dict(zip(names[1:], right[1:]))), told)
        self.assertEqual(webs.pieces(web=HOUSE), [(0, 1, 2, 3, 4)])
        self.assertEqual(leaving.may_leave(web=HOUSE), leaving.may_leave(HOUSE, ()))

    def test_no_argument_is_changed(self):
        for function, _, right in CALLS + ANY_VALUE:
            kept = copy.deepcopy(right)
            function(*right)
            self.assertEqual(right, kept)
        for value in ODD_VALUES:
            kept = copy.deepcopy(value)
            webs.is_web(value)
            bare_rounds.is_bare(HOUSE, value)
            leaving.is_order(TWIG, value)
            lot_trees.is_lot_tree(TWIG, value)
            lot_trees.is_tree_row(TWIG, TREE, OTHER_TREE, value)
            subtrees.is_host(value)
            subtrees.is_spread(HOST, value)
            subtrees.is_spread_of(TWIG, value)
            swaps.is_swap_row(TWIG, ORDER, ORDER, value)
            dyes.is_dyeing(TWIG, 3, value)
            dyes.is_exchange_row(TWIG, 3, DYEING, DYEING, value)
            for function in (covers.is_cover, covers.is_apart_paper, fillings.is_least_filling, fillings.is_calm,
                             fillings.is_greatest_calm):
                function(TWIG, value)
            covers.is_weight_paper(TWIG, (0, 1, 2, 3, 4), value)
            for function in (widths.is_thicket, stretches.is_stretched, stretches.is_lot_row, stretches.is_line_order,
                             stretches.is_even_order):
                function(TWIG, value)
            stretches.is_apart_ways(SPIDER, (4, 5, 6), value)
            tables.is_whole_table(TWIG, FAMILY, value)
            tables.is_denial(TWIG, FAMILY, value)
            paper_texts.is_paper(value)
            for function in (paper_texts.paper_text, paper_texts.paper_told):
                with self.assertRaises(errors.LeaveError):
                    function(value)
            self.assertEqual(repr(value), repr(kept))

    def test_lists_are_new(self):
        for function, arguments in [
                *[(function, right) for function, _, right in CALLS if function in LISTS], (webs.pieces, (HOUSE,)),
                (bare_rounds.bare_rings, (FAN,)), (webs.pieces, (bare_web(1), (0,))), (lot_trees.branches, (FAN,))]:
            first = function(*arguments)
            told = copy.deepcopy(first)
            first.append("more")
            first[0] = None
            self.assertEqual(function(*arguments), told)
            self.assertIsNot(function(*arguments), function(*arguments))

    def test_kinds_of_what_is_told(self):
        for function, names, right in CALLS:
            told = function(*right)
            if function.__name__.startswith("is_"):
                self.assertIs(type(told), bool)
            elif function in LISTS:
                self.assertIs(type(told), list)
                self.assertTrue(told and plain(tuple(told)), function.__name__)
            elif function is webs.web_text:
                self.assertIs(type(told), str)
            else:
                self.assertTrue(plain(told), (function.__name__, told))

    def test_equal_arguments_equal_results(self):
        for function, _, right in CALLS:
            self.assertEqual(function(*right), function(*copy.deepcopy(right)))


def plain(value):
    """Whether the value has only tuples and integers, or is None."""
    if type(value) is tuple:
        return all(plain(part) for part in value)
    return value is None or type(value) is int


if __name__ == "__main__":
    unittest.main()

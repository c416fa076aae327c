"""[10], A3 to A6: who may leave, and leaving orders."""

import unittest
from itertools import permutations

from leaveorder.bare_rounds import is_bare
from leaveorder.errors import InvalidLot, NotLeaving, NotTied
from leaveorder.leaving import (first_hitch, first_order, is_leaving, is_order, later_neighbours, may_leave,
                                order_ending)
from leaveorder.webs import beside, inner, is_tied, pieces, renamed, with_tie
from tests import lot_oracle, oracle
from tests.at_hand import (BIG, ODD_VALUES, all_webs, bare_web, block_web, deep, full_web, large_webs, leaving_webs,
                           lots, path_web, ring_web, small_webs, some_webs, star_web, two_sided_web, webs_of_twelve)


def webs_of_six():
    return some_webs(6, 12, 41) + leaving_webs(6, 12, 42) + [ring_web(6), beside(ring_web(4), bare_web(2)), bare_web(6)]


class MayLeaveTest(unittest.TestCase):

    def test_when_each_lot_has_gone(self):
        for web in small_webs() + webs_of_six()[::3]:
            every = range(web[0])
            for lot in lots(web[0]):
                left = [place for place in every if place not in lot]
                self.assertEqual(may_leave(web, lot), tuple(oracle.leavers_among(web, left)), (web, lot))
            self.assertEqual(may_leave(web), may_leave(web, ()))

    def test_larger_webs(self):
        for web in large_webs() + webs_of_twelve():
            self.assertEqual(may_leave(web), tuple(oracle.leavers_among(web, range(web[0]))))
            lot = tuple(range(0, web[0], 3))
            left = [place for place in range(web[0]) if place not in lot]
            self.assertEqual(may_leave(web, lot), tuple(oracle.leavers_among(web, left)))

    def test_edges(self):
        self.assertEqual([may_leave(bare_web(1)), may_leave(bare_web(1), (0,))], [(0,), ()])
        self.assertEqual(may_leave(full_web(12)), tuple(range(12)))
        self.assertEqual(may_leave(bare_web(12)), tuple(range(12)))
        self.assertEqual(may_leave(full_web(12), tuple(range(12))), ())
        self.assertEqual(may_leave(full_web(12), tuple(range(11))), (11,))
        self.assertEqual([may_leave(ring_web(12)), may_leave(ring_web(12), (0,))], [(), (1, 11)])
        self.assertEqual([may_leave(star_web(12)), may_leave(star_web(2))], [tuple(range(1, 12)), (0, 1)])


class OrdersTest(unittest.TestCase):

    def test_all_rows_of_small_webs(self):
        for web in [web for count in (1, 2, 3, 4) for web in all_webs(count)] + all_webs(5)[::30] + webs_of_six()[::6]:
            found = lot_oracle.orders(web)
            self.assertIs(is_leaving(web), bool(found))
            for row in permutations(range(web[0])):
                self.assertIs(is_order(web, row), row in found, (web, row))
            if found:
                self.assertEqual(first_order(web), found[0])
            else:
                self.assert_bare_round(web, first_order, web)
            for lot in lots(web[0]):
                self.assert_order_ending(web, lot, found)

    def assert_order_ending(self, web, lot, found):
        if not oracle.all_tied(web, lot):
            with self.assertRaises(NotTied) as caught:
                order_ending(web, lot)
            untied = [(x, y) for x in lot for y in lot if x < y and not oracle.tied(web, x, y)]
            self.assertEqual(caught.exception.tie, untied[0])
        elif found:
            ending = [row for row in found if set(row[len(row) - len(lot):]) == set(lot)]
            self.assertEqual(order_ending(web, lot), ending[0], (web, lot))
        else:
            self.assert_bare_round(web, order_ending, web, lot)

    def assert_bare_round(self, web, function, *arguments):
        with self.assertRaises(NotLeaving) as caught:
            function(*arguments)
        self.assertTrue(is_bare(web, caught.exception.ring), (web, caught.exception.ring))

    def test_webs_of_six_and_more(self):
        for web in webs_of_six() + large_webs() + webs_of_twelve() + leaving_webs(9, 20, 43):
            self.assertIs(is_leaving(web), oracle.has_order(web) if web[0] < 10 else oracle.bare_lots(web) == [], web)
            if not is_leaving(web):
                self.assert_bare_round(web, first_order, web)
                self.assert_bare_round(web, order_ending, web, (0,))
                continue
            order = first_order(web)
            self.assertTrue(lot_oracle.is_leaving_row(web, order))
            self.assertIs(is_order(web, order), True)
            for lot in lot_oracle.tied_lots(web)[:200:7]:
                told = order_ending(web, lot)
                self.assertTrue(lot_oracle.is_leaving_row(web, told))
                self.assertEqual(told[web[0] - len(lot):], lot)
            self.assertEqual(order, greedy(web, ()))

    def test_the_first_one_that_ends_so(self):
        for web in leaving_webs(7, 10, 44) + leaving_webs(12, 10, 45):
            for lot in lot_oracle.tied_lots(web)[::5]:
                self.assertEqual(order_ending(web, lot), greedy(web, lot))

    def test_order_ending_edges(self):
        self.assertEqual([order_ending(bare_web(1), ()), order_ending(bare_web(1), (0,))], [(0,), (0,)])
        self.assertEqual(order_ending(full_web(12), tuple(range(12))), tuple(range(12)))
        self.assertEqual(order_ending(full_web(12), (0, 1)), (*range(2, 12), 0, 1))
        self.assertEqual(order_ending(bare_web(12), (3,)), (0, 1, 2, *range(4, 12), 3))
        self.assertEqual(order_ending(path_web(12), (0, 1)), (11, 10, 9, 8, 7, 6, 5, 4, 3, 2, 0, 1))
        self.assertEqual(order_ending(path_web(3), ()), first_order(path_web(3)))

    def test_errors_of_order_ending(self):
        for web, lot, tie in ((ring_web(12), (0, 1, 3, 11), (0, 3)), (bare_web(12), (9, 10, 11), (9, 10)),
                              (path_web(4), (0, 1, 2), (0, 2)), (ring_web(4), (0, 1, 2, 3), (0, 2)),
                              (path_web(5), (1, 2, 4), (1, 4))):
            with self.assertRaises(NotTied) as caught:
                order_ending(web, lot)
            self.assertEqual(caught.exception.tie, tie)
        for lot in ((), (0,), (0, 1)):
            self.assert_bare_round(ring_web(4), order_ending, ring_web(4), lot)
        with self.assertRaises(InvalidLot):
            order_ending(ring_web(4), (0, 2, 4))

    def test_is_order_of_any_value(self):
        web = path_web(4)
        self.assertIs(is_order(web, (0, 1, 2, 3)), True)
        wrong = [
            [0, 1, 2, 3], (0, 1, 2), (0, 1, 2, 3, 3), (0, 1, 2, 2), (0, 1, 2, 4), (False, 1, 2, 3), (0, True, 2, 3),
            (0, 1, 2, "3"), (0, 1, 2, None), (0, 1, 2, (3,)), (0, 1, 2, BIG), (-4, 1, 2, 3), (0, 1, 2, -1), "abcd",
            ((0, 1, 2, 3),), (0, 1, 2, deep(tuple)), (), (0,), (0, 2, 1, 3), (1, 0, 2, 3), (0, 1, 2, 3, 0), web,
        ]
        for value in wrong + ODD_VALUES:
            self.assertIs(is_order(web, value), False, value)
            self.assertIs(is_order(bare_web(12), value), False, value)
        self.assertEqual([is_order(bare_web(1), value) for value in ((0,), (False,), [0], (), 0)],
                         [True, False, False, False, False])


class RowsTest(unittest.TestCase):

    def test_all_rows_of_small_webs(self):
        for web in [web for count in (1, 2, 3, 4) for web in all_webs(count)] + all_webs(5)[::60] + webs_of_six()[::9]:
            for row in permutations(range(web[0])):
                later = [tuple(sorted(y for y in row[at:] if oracle.tied(web, x, y))) for at, x in enumerate(row)]
                self.assertEqual(later_neighbours(web, row), later)
                hitches = [at for at, x in enumerate(row) if x not in oracle.leavers_among(web, row[at:])]
                self.assertEqual(first_hitch(web, row), hitches[0] if hitches else None, (web, row))

    def test_edges(self):
        self.assertEqual([later_neighbours(bare_web(1), (0,)), first_hitch(bare_web(1), (0,))], [[()], None])
        self.assertEqual(later_neighbours(bare_web(12), tuple(range(12))), [()] * 12)
        row = (3, 1, 4, 0, 5, 9, 2, 6, 8, 7, 11, 10)
        self.assertEqual(later_neighbours(full_web(12), row), [tuple(sorted(row[at + 1:])) for at in range(12)])
        self.assertEqual([first_hitch(full_web(12), row), first_hitch(ring_web(12), row)], [None, 0])
        self.assertEqual(first_hitch(path_web(12), (*range(9), 10, 9, 11)), 9)
        self.assertEqual(first_hitch(with_tie(with_tie(ring_web(5), 0, 2), 2, 4), (1, 0, 2, 3, 4)), None)


class FactsTest(unittest.TestCase):

    def test_no_choice_is_wrong(self):
        for web in small_webs()[::2] + webs_of_six():
            if not is_leaving(web):
                continue
            for lot in lots(web[0])[1:]:
                self.assertIs(is_leaving(inner(web, lot)), True)
                gone = tuple(place for place in range(web[0]) if place not in lot)
                self.assertNotEqual(may_leave(web, gone), ())

    def test_two_that_may_leave_are_not_tied(self):
        for web in small_webs() + webs_of_six() + leaving_webs(10, 20, 46):
            every = tuple(range(web[0]))
            if is_leaving(web) and not is_tied(web, every):
                self.assertIs(is_tied(web, may_leave(web)), False)

    def test_each_tied_lot_can_be_the_last_one(self):
        for web in leaving_webs(8, 20, 47):
            for lot in lot_oracle.tied_lots(web):
                self.assertEqual(order_ending(web, lot)[8 - len(lot):], lot)

    def test_rows_of_tied_later_neighbours_are_the_orders(self):
        for web in all_webs(4) + webs_of_six()[::5]:
            counts = set()
            for row in permutations(range(web[0])):
                later = later_neighbours(web, row)
                self.assertIs(is_order(web, row), all(is_tied(web, lot) for lot in later))
                if is_order(web, row):
                    counts.add(tuple(sorted(len(lot) for lot in later)))
            self.assertEqual(len(counts), 1 if is_leaving(web) else 0)

    def test_a_web_can_be_left_if_its_pieces_can(self):
        webs = small_webs() + webs_of_six() + some_webs(10, 10, 48)
        webs += [beside(web, other) for web in webs_of_six()[::4] for other in webs_of_six()[::5]]
        for web in webs:
            self.assertIs(is_leaving(web), all(is_leaving(inner(web, piece)) for piece in pieces(web)))

    def test_webs_that_can_always_be_left(self):
        for web in [web for count in (1, 2, 3) for web in all_webs(count)]:
            self.assertIs(is_leaving(web), True)
        for count in range(1, 13):
            for web in (bare_web(count), full_web(count), path_web(count), star_web(count), block_web(count, 4)):
                self.assertIs(is_leaving(web), True)
                turned = renamed(web, tuple(range(count))[::-1])
                self.assertIs(is_leaving(turned), True)
            if count > 3:
                self.assertIs(is_leaving(ring_web(count)), False)
                self.assertIs(is_leaving(two_sided_web(count)), False)


def greedy(web, lot):
    """The order in which the least place outside of the lot that may leave goes each time."""
    left = list(range(web[0]))
    row = []
    while len(left) > len(lot):
        row.append([place for place in oracle.leavers_among(web, left) if place not in lot][0])
        left.remove(row[-1])
    return (*row, *lot)


if __name__ == "__main__":
    unittest.main()

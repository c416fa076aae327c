"""[14], C1: whole lots, tied lots by their number of places, heads."""

import unittest
from itertools import permutations
from math import comb

from leaveorder.errors import InvalidRow
from leaveorder.leaving import first_order, is_leaving, later_neighbours, may_leave, order_ending
from leaveorder.whole_lots import greatest_lot, heads, is_whole, lots_with, tied_counts, whole_lots
from tests import lot_oracle
from tests.at_hand import (all_webs, bare_web, block_web, full_web, large_webs, leaving_webs, lots, parted_web,
                           path_web, ring_web, small_webs, some_webs, star_web, two_sided_web, webs_of_twelve)


def asked_webs():
    return small_webs() + some_webs(6, 15, 51) + leaving_webs(6, 15, 52) + some_webs(7, 6, 53)


class WholeLotsTest(unittest.TestCase):

    def test_against_all_tied_lots(self):
        for web in asked_webs():
            found = lot_oracle.whole_lots(web)
            self.assertEqual(whole_lots(web), found, web)
            for lot in lots(web[0]):
                self.assertIs(is_whole(web, lot), lot in found)
            for place in range(web[0]):
                self.assertEqual(lots_with(web, place), [lot for lot in found if place in lot])
            most = max(len(lot) for lot in found)
            self.assertEqual(greatest_lot(web), [lot for lot in found if len(lot) == most][0])

    def test_larger_webs(self):
        for web in large_webs()[::8] + webs_of_twelve()[1::7]:
            found = lot_oracle.whole_lots(web)
            self.assertEqual(whole_lots(web), found, web)
            self.assertEqual(greatest_lot(web), min(found, key=lambda lot: (-len(lot), lot)))
            self.assertEqual(lots_with(web, 3), [lot for lot in found if 3 in lot])

    def test_edges(self):
        self.assertEqual([whole_lots(bare_web(1)), whole_lots(bare_web(2))], [[(0,)], [(0,), (1,)]])
        self.assertEqual([whole_lots(full_web(12)), greatest_lot(full_web(12))], [[tuple(range(12))], tuple(range(12))])
        self.assertEqual(whole_lots(bare_web(12)), [(place,) for place in range(12)])
        self.assertEqual([greatest_lot(bare_web(12)), greatest_lot(ring_web(12))], [(0,), (0, 1)])
        self.assertEqual(len(whole_lots(parted_web(12, 3))), 81)
        self.assertEqual(len(whole_lots(two_sided_web(12))), 36)
        self.assertEqual(greatest_lot(block_web(12, 5)), (0, 1, 2, 3, 4))
        self.assertEqual(whole_lots(block_web(7, 3)), [(0, 1, 2), (3, 4, 5), (6,)])

    def test_the_lot_of_no_places(self):
        for web in (bare_web(1), full_web(12), path_web(3)):
            self.assertIs(is_whole(web, ()), False)
            self.assertIs(is_whole(web, tuple(range(web[0]))), web != path_web(3))

    def test_the_sequence_goes_by_places_and_not_by_sizes(self):
        web = (5, ((0, 4), (1, 2), (1, 3), (2, 3), (3, 4)))
        self.assertEqual(whole_lots(web), [(0, 4), (1, 2, 3), (3, 4)])
        self.assertEqual([lots_with(web, 3), lots_with(web, 4)], [[(1, 2, 3), (3, 4)], [(0, 4), (3, 4)]])
        self.assertEqual(greatest_lot(web), (1, 2, 3))
        self.assertEqual(greatest_lot((5, ((0, 4), (1, 2), (3, 4)))), (0, 4))


class TiedCountsTest(unittest.TestCase):

    def test_against_all_tied_lots(self):
        for web in asked_webs() + large_webs()[::6]:
            sizes = [len(lot) for lot in lot_oracle.tied_lots(web)]
            self.assertEqual(tied_counts(web), tuple(sizes.count(size) for size in range(max(sizes) + 1)), web)

    def test_edges(self):
        self.assertEqual([tied_counts(bare_web(1)), tied_counts(bare_web(12))], [(1, 1), (1, 12)])
        self.assertEqual(tied_counts(full_web(12)), tuple(comb(12, size) for size in range(13)))
        self.assertEqual(tied_counts(two_sided_web(12)), (1, 12, 36))
        self.assertEqual(tied_counts(parted_web(12, 3)), (1, 12, 54, 108, 81))
        self.assertEqual(tied_counts(ring_web(12)), (1, 12, 12))


class HeadsTest(unittest.TestCase):

    def test_all_orders_of_small_webs(self):
        for web in [web for count in (1, 2, 3, 4) for web in all_webs(count)] + leaving_webs(5, 12, 54):
            wholes = lot_oracle.whole_lots(web)
            found = lot_oracle.orders(web)
            for row in permutations(range(web[0])):
                if row in found:
                    later = later_neighbours(web, row)
                    told = [x for x, lot in zip(row, later) if tuple(sorted((x, *lot))) in wholes]
                    self.assertEqual(heads(web, row), tuple(sorted(told)))
                else:
                    with self.assertRaises(InvalidRow):
                        heads(web, row)

    def test_edges(self):
        self.assertEqual([heads(bare_web(1), (0,)), heads(bare_web(12), tuple(range(12)))], [(0,), tuple(range(12))])
        self.assertEqual(heads(full_web(12), (7, 3, 1, 0, 2, 4, 5, 6, 8, 9, 10, 11)), (7,))
        self.assertEqual(heads(star_web(12), (*range(11, 0, -1), 0)), tuple(range(1, 12)))
        self.assertEqual(heads(star_web(12), (*range(11, 1, -1), 0, 1)), (0, *range(2, 12)))
        with self.assertRaises(InvalidRow):
            heads(ring_web(12), tuple(range(12)))


class FactsTest(unittest.TestCase):

    def test_who_may_leave_has_one_whole_lot(self):
        for web in asked_webs() + large_webs() + webs_of_twelve():
            alone = [place for place in range(web[0]) if len(lots_with(web, place)) == 1]
            self.assertEqual(may_leave(web), tuple(alone))

    def test_as_many_heads_as_whole_lots(self):
        for web in asked_webs() + large_webs() + webs_of_twelve():
            if not is_leaving(web):
                continue
            wholes = whole_lots(web)
            self.assertLessEqual(len(wholes), web[0])
            for order in (first_order(web), order_ending(web, wholes[0]), order_ending(web, wholes[-1])):
                later = later_neighbours(web, order)
                told = heads(web, order)
                made = [tuple(sorted((x, *lot))) for x, lot in zip(order, later) if x in told]
                self.assertEqual(sorted(made), wholes)


if __name__ == "__main__":
    unittest.main()

"""[23], F1, F2: all leaving orders by number."""

import unittest
from math import comb, factorial

from leaveorder.errors import InvalidRow
from leaveorder.leaving import first_order, is_leaving
from leaveorder.orders import ahead_count, index_counts, next_order, nth_order, order_count, order_number
from leaveorder.webs import beside, inner, pieces
from tests import lot_oracle
from tests.at_hand import (BIG, all_webs, bare_web, block_web, full_web, large_webs, leaving_webs, pairs, path_web,
                           ring_web, some_webs, star_web, two_sided_web, webs_of_twelve)


def cases():
    webs = [web for count in (1, 2, 3, 4) for web in all_webs(count)] + all_webs(5)[::25]
    webs += some_webs(6, 6, 60) + leaving_webs(6, 10, 61) + leaving_webs(7, 3, 62)
    return webs + [ring_web(4), ring_web(6), beside(ring_web(4), bare_web(2)), bare_web(6), full_web(6)]


class OrdersTest(unittest.TestCase):

    def test_against_all_orders(self):
        for web in cases():
            found = lot_oracle.orders(web)
            self.assertEqual(order_count(web), len(found))
            for at, order in list(enumerate(found))[::max(1, len(found) // 40)]:
                self.assertEqual(nth_order(web, at), order)
                self.assertEqual(order_number(web, order), at)
                self.assertEqual(next_order(web, order), (found + [None])[at + 1])
            for number in (len(found), len(found) + 1, BIG):
                self.assertIsNone(nth_order(web, number))
            if found:
                self.assertIsNone(next_order(web, found[-1]))
                self.assertEqual(nth_order(web, len(found) - 1), found[-1])

    def test_counts_against_all_orders(self):
        for web in cases():
            found = lot_oracle.orders(web)
            for place in range(web[0]):
                counts = [len([1 for order in found if order[at] == place]) for at in range(web[0])]
                self.assertEqual(index_counts(web, place), counts)
                for other in range(web[0]):
                    if other != place:
                        ahead = len([1 for order in found if order.index(place) < order.index(other)])
                        self.assertEqual(ahead_count(web, place, other), ahead)

    def test_webs_that_cannot_be_left(self):
        for web in [ring_web(4), ring_web(12), two_sided_web(12), beside(ring_web(5), bare_web(7))]:
            self.assertEqual([order_count(web), nth_order(web, 0), nth_order(web, BIG)], [0, None, None])
            self.assertEqual([index_counts(web, 3), ahead_count(web, 3, 0)], [[0] * web[0], 0])
            with self.assertRaises(InvalidRow):
                order_number(web, tuple(range(web[0])))
            with self.assertRaises(InvalidRow):
                next_order(web, tuple(range(web[0])))

    def test_edges(self):
        self.assertEqual([order_count(bare_web(1)), nth_order(bare_web(1), 0), nth_order(bare_web(1), 1)], [1, (0,), None])
        self.assertEqual([next_order(bare_web(1), (0,)), order_number(bare_web(1), (0,))], [None, 0])
        self.assertEqual(index_counts(bare_web(1), 0), [1])
        for web in (bare_web(12), full_web(12)):
            self.assertEqual(order_count(web), factorial(12))
            self.assertEqual(nth_order(web, factorial(12) - 1), tuple(range(12))[::-1])
            self.assertIsNone(nth_order(web, factorial(12)))
            self.assertIsNone(next_order(web, tuple(range(12))[::-1]))
            self.assertEqual(next_order(web, tuple(range(12))), (*range(10), 11, 10))
            self.assertEqual(order_number(web, (1, 0, *range(2, 12))), factorial(11))
            self.assertEqual(index_counts(web, 5), [factorial(11)] * 12)
            self.assertEqual(ahead_count(web, 5, 6), factorial(12) // 2)
        self.assertEqual(order_count(path_web(12)), 2 ** 11)
        # The middle of a star goes last, or last but one.
        self.assertEqual(index_counts(star_web(12), 0), [0] * 10 + [factorial(11)] * 2)

    def test_webs_of_twelve(self):
        for web in webs_of_twelve()[::3] + [web for web in large_webs() if web[0] > 8]:
            if not is_leaving(web):
                self.assertEqual(order_count(web), 0)
                continue
            count = order_count(web)
            self.assertEqual(nth_order(web, 0), first_order(web))
            for number in (1, count // 3, count - 1):
                order = nth_order(web, max(0, number))
                self.assertTrue(lot_oracle.is_leaving_row(web, order))
                self.assertEqual(order_number(web, order), max(0, number))
                self.assertEqual(next_order(web, order), nth_order(web, max(0, number) + 1))
            self.assertIsNone(nth_order(web, count))


class FactsTest(unittest.TestCase):

    def test_sums(self):
        for web in cases()[::3] + leaving_webs(12, 3, 63) + [ring_web(12)]:
            count = order_count(web)
            for place in range(web[0]):
                self.assertEqual(sum(index_counts(web, place)), count)
            for x, y in pairs(web[0])[::3]:
                self.assertEqual(ahead_count(web, x, y) + ahead_count(web, y, x), count)
                self.assertIs(ahead_count(web, x, y) > 0 and ahead_count(web, y, x) > 0, is_leaving(web))
            if is_leaving(web):
                self.assertTrue(all(index_counts(web, place)[-1] > 0 for place in range(web[0])))

    def test_pieces_are_mixed(self):
        webs = [beside(web, other) for web in leaving_webs(5, 4, 64) for other in leaving_webs(6, 4, 65)]
        for web in webs + some_webs(8, 12, 66) + [block_web(12, 3), block_web(11, 4), bare_web(9)]:
            count, left = 1, web[0]
            for piece in pieces(web):
                count *= order_count(inner(web, piece)) * comb(left, len(piece))
                left -= len(piece)
            self.assertEqual(order_count(web), count)

    def test_all_tied(self):
        for count in range(1, 13):
            self.assertEqual(order_count(full_web(count)), factorial(count))


if __name__ == "__main__":
    unittest.main()

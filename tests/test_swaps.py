"""[25], F5, F6: swaps of leaving orders."""

import unittest
from itertools import combinations

from leaveorder.errors import InvalidRow, Refused
from leaveorder.leaving import is_leaving, may_leave
from leaveorder.orders import nth_order, order_count
from leaveorder.swaps import fewest_swaps, is_swap_row, swap_row, swapped, swaps_of
from tests import lot_oracle
from tests.at_hand import (BIG, ODD_VALUES, all_webs, bare_web, deep, full_web, leaving_webs, path_web, ring_web,
                           star_web, webs_of_twelve)


def cases():
    webs = [web for count in (1, 2, 3, 4) for web in all_webs(count)] + all_webs(5)[::90]
    return [web for web in webs if is_leaving(web)] + leaving_webs(5, 4, 80) + [path_web(6), star_web(5)]


def exchanged(order, at):
    return order[:at] + (order[at + 1], order[at]) + order[at + 2:]


def steps_between(found):
    """For each leaving order, the swaps that it has by the list of all."""
    return {order: [at for at in range(len(order) - 1) if exchanged(order, at) in found] for order in found}


class SwapsTest(unittest.TestCase):

    def test_against_all_orders(self):
        for web in cases():
            steps = steps_between(set(lot_oracle.orders(web)))
            for order in steps:
                self.assertEqual(swaps_of(web, order), steps[order])
                for number in range(web[0] + 2):
                    if number in steps[order]:
                        self.assertEqual(swapped(web, order, number), exchanged(order, number))
                    else:
                        with self.assertRaises(Refused):
                            swapped(web, order, number)

    def test_shortest_rows(self):
        for web in cases():
            steps = steps_between(set(lot_oracle.orders(web)))
            for start in list(steps)[::max(1, len(steps) // 4)]:
                far = {start: 0}
                waiting = [start]
                for order in waiting:
                    for at in steps[order]:
                        other = exchanged(order, at)
                        if other not in far:
                            far[other] = far[order] + 1
                            waiting.append(other)
                self.assertEqual(len(far), len(steps))
                for end in list(steps)[::max(1, len(steps) // 20)]:
                    self.assertEqual(fewest_swaps(web, start, end), far[end])
                    unlike = [1 for x, y in combinations(range(web[0]), 2)
                              if (start.index(x) < start.index(y)) != (end.index(x) < end.index(y))]
                    self.assertEqual(far[end], len(unlike))
                    self.assert_row(web, start, end, far[end])

    def assert_row(self, web, start, end, count):
        row = swap_row(web, start, end)
        self.assertIs(type(row), list)
        self.assertEqual(len(row), count)
        self.assertIs(is_swap_row(web, start, end, row), True)
        order = start
        for at in row:
            order = swapped(web, order, at)
        self.assertEqual(order, end)

    def test_rows_of_any_value(self):
        path = path_web(4)
        start, end = (0, 1, 2, 3), (0, 3, 1, 2)
        for row, told in (([2, 1], True), ([1, 2], False), ([2], False), ([2, 1, 1, 1], True), ([2, 2, 2, 1], True),
                          ([], False), ([2, 1, 0], False), ((2, 1), False), ([2, True], False), ([2, 1, None], False),
                          ([2, -3], False), ([2, 4], False), ([2, 1, 3], False), ([[2], 1], False), ([2, BIG], False),
                          ([2, "1"], False), ([2, 1] * 50, False)):
            self.assertIs(is_swap_row(path, start, end, row), told, row)
        self.assertEqual([is_swap_row(path, start, start, row) for row in ([], [2, 2], [2], (), None, deep(list))],
                         [True, True, False, False, False, False])
        for value in ODD_VALUES:
            self.assertIs(is_swap_row(path, start, end, value), False)
            self.assertIs(is_swap_row(path, start, start, value), value == [] and type(value) is list)
        self.assertIs(is_swap_row(path, start, start, [2] * 2998), True)

    def test_edges(self):
        self.assertEqual([swaps_of(bare_web(1), (0,)), swap_row(bare_web(1), (0,), (0,))], [[], []])
        with self.assertRaises(Refused):
            swapped(bare_web(1), (0,), 0)
        for web in (bare_web(12), full_web(12)):
            up, down = tuple(range(12)), tuple(range(12))[::-1]
            self.assertEqual(swaps_of(web, up), list(range(11)))
            self.assertEqual(fewest_swaps(web, up, down), 66)
            self.assert_row(web, up, down, 66)
            self.assertEqual(swapped(web, up, 10), (*range(10), 11, 10))
        for web in (ring_web(4), ring_web(12)):
            with self.assertRaises(InvalidRow):
                swaps_of(web, tuple(range(web[0])))

    def test_webs_of_twelve(self):
        for web in [web for web in webs_of_twelve() if is_leaving(web)]:
            count = order_count(web)
            start, end = nth_order(web, count // 3), nth_order(web, count - 1)
            self.assert_row(web, start, end, fewest_swaps(web, end, start))
            self.assert_row(web, end, start, fewest_swaps(web, end, start))


class FactsTest(unittest.TestCase):

    def test_whichever_swap_lessens_the_number(self):
        for web in leaving_webs(6, 6, 81) + leaving_webs(12, 6, 82):
            count = order_count(web)
            order, end = nth_order(web, count // 2), nth_order(web, count - 1)
            while order != end:
                far = fewest_swaps(web, order, end)
                nearer = [at for at in swaps_of(web, order) if fewest_swaps(web, swapped(web, order, at), end) < far]
                self.assertNotEqual(nearer, [])
                order = swapped(web, order, nearer[len(nearer) // 2])

    def test_two_side_by_side(self):
        for web in cases():
            for order in lot_oracle.orders(web)[::7]:
                for at in range(web[0] - 1):
                    free = order[at + 1] in may_leave(web, tuple(sorted(order[:at])))
                    self.assertIs(at in swaps_of(web, order), free)
                    if (min(order[at:at + 2]), max(order[at:at + 2])) not in web[1]:
                        self.assertTrue(free)


if __name__ == "__main__":
    unittest.main()

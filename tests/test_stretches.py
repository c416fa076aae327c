"""[34], [35], [36], J1 to J4: stretches, apart threes, claws, lot rows, line orders."""

import random
import unittest
from itertools import combinations, permutations

from leaveorder.bare_rounds import is_bare
from leaveorder.errors import InvalidRow, NotEven, NotLeaving, NotStretched
from leaveorder.leaving import is_leaving, is_order
from leaveorder.stretches import (apart_three, apart_ways, claw, even_order, is_apart_three, is_apart_ways,
                                  is_even_order, is_line_order, is_lot_row, is_stretched, line_order_count,
                                  lot_row_count, nth_line_order, nth_lot_row, row_stretches, stretches,
                                  web_of_stretches)
from leaveorder.webs import beside
from tests import lot_oracle, oracle
from tests.at_hand import (BIG, ODD_VALUES, all_webs, bare_web, block_web, deep, full_web, leaving_webs, lots,
                           parted_web, path_web, ring_web, some_webs, star_web, two_sided_web, webs_of_twelve)

SPIDER = (7, ((0, 1), (0, 2), (0, 3), (1, 4), (2, 5), (3, 6)))
# Three places that lie apart about a tied lot of three.
NET = (6, ((0, 1), (0, 2), (0, 3), (1, 2), (1, 4), (2, 5)))


def cases():
    webs = [web for count in (1, 2, 3, 4) for web in all_webs(count)] + all_webs(5)[::13] + some_webs(6, 6, 110)
    return webs + leaving_webs(6, 8, 111) + [NET, ring_web(6), bare_web(5), full_web(5), star_web(6)]


def stretched_webs(count, many, seed):
    """So many webs of drawn stretches, with these stretches."""
    chance = random.Random(seed * 100 + count)
    found = []
    for at in range(many):
        long = 1 + at % 7
        lefts = [chance.randrange(count + 3) for _ in range(count)]
        rows = tuple((left, left + chance.randrange(long + 1)) for left in lefts)
        ties = tuple((x, y) for x, y in combinations(range(count), 2)
                     if set(range(rows[x][0], rows[x][1] + 1)) & set(range(rows[y][0], rows[y][1] + 1)))
        found.append(((count, ties), rows))
    return found


def clear(web, x, y, z):
    """All clear ways from the one to the other, by the third."""
    shut = {z, *oracle.near(web, z)}
    ways = [(x,)] if x not in shut else []
    for way in ways:
        ways += [(*way, other) for other in oracle.near(web, way[-1]) if other not in shut and other not in way]
    return [way for way in ways if way[-1] == y]


def lies_apart(web, lot):
    x, y, z = lot
    return oracle.none_tied(web, lot) and bool(clear(web, x, y, z) and clear(web, x, z, y) and clear(web, y, z, x))


def lot_rows(web):
    wholes = lot_oracle.whole_lots(web)
    if len(wholes) > 6:
        return []
    found = []
    for row in permutations(range(len(wholes))):
        spots = [[at for at, index in enumerate(row) if x in wholes[index]] for x in range(web[0])]
        if all(spot == list(range(spot[0], spot[-1] + 1)) for spot in spots):
            found.append(row)
    return found


def is_line(web, row):
    return all(oracle.tied(web, a, b) for a, b, c in combinations(row, 3) if oracle.tied(web, a, c))


class StretchesTest(unittest.TestCase):

    def test_webs_of_stretches(self):
        for count in (1, 2, 5, 8, 12):
            for web, rows in stretched_webs(count, 14, 112):
                self.assertEqual(web_of_stretches(rows), web)
                self.assertIs(is_stretched(web, rows), True)
                far = tuple((left * 3 - BIG // 2, right * 3 - BIG // 2) for left, right in rows)
                self.assertEqual(web_of_stretches(far), web)
                self.assertIs(is_stretched(web, [*rows]), False)
                if count > 1:
                    self.assertIs(is_stretched((count - 1, ()), rows), False)
        self.assertEqual(web_of_stretches(((0, 0),)), bare_web(1))
        self.assertEqual(web_of_stretches(((-BIG, BIG),) * 12), full_web(12))
        self.assertEqual(web_of_stretches(((BIG, BIG), (-BIG, BIG - 1), (BIG - 1, BIG))), (3, ((0, 2), (1, 2))))
        self.assertEqual(web_of_stretches(((-3, -3), (-4, -3), (-5, -4))), (3, ((0, 1), (1, 2))))

    def test_any_value(self):
        for value in [*ODD_VALUES, ((0, 1),), ((0, 1), (1, 2)), ((0, 1), (2, 3)), ((0, 1), (1, 2), (0, 0), (5, 6)), (),
                      ((0, 1), (1, 2), (2, 3), [3, 4]), ((0, 1), (1, 2), (2, 3), (4, 3)), ((0, 1),) * 13,
                      ((0, 1), (1, 2), (2, 3), (3, True)), ((0, 1), (1, 2), (2, 3), (3, None)),
                      ((0, 1), (1, 2), (2, 3), (3, 4, 5)), ((0, 1), (1, 2), (2, 3), deep(list))]:
            self.assertIs(is_stretched(path_web(4), value), False, value)
        self.assertIs(is_stretched(path_web(4), ((0, 1), (1, 2), (2, 3), (3, 4))), True)

    def test_against_all_rows(self):
        for web in cases():
            found = lot_rows(web)
            wholes = lot_oracle.whole_lots(web)
            self.assertEqual(lot_row_count(web), len(found), web)
            for at, row in list(enumerate(found))[::max(1, len(found) // 20)]:
                self.assertEqual(nth_lot_row(web, at), row)
                spots = [[k for k, index in enumerate(row) if x in wholes[index]] for x in range(web[0])]
                told = tuple((spot[0], spot[-1]) for spot in spots)
                self.assertEqual(row_stretches(web, row), told)
                self.assertIs(is_stretched(web, told), True)
            for number in (len(found), len(found) + 1, BIG):
                self.assertIsNone(nth_lot_row(web, number))
            if len(wholes) < 6:
                for row in permutations(range(len(wholes))):
                    self.assertIs(is_lot_row(web, row), row in found)
                    if row not in found:
                        with self.assertRaises(InvalidRow):
                            row_stretches(web, row)
            self.assert_told(web, found)

    def assert_told(self, web, found):
        if found:
            self.assertEqual(stretches(web), row_stretches(web, found[0]))
            self.assertIs(apart_three(web), None)
            return
        with self.assertRaises(NotStretched if is_leaving(web) else NotLeaving) as caught:
            stretches(web)
        with self.assertRaises(type(caught.exception)):
            even_order(web)
        if is_leaving(web):
            self.assertEqual(caught.exception.three, apart_three(web))
            self.assertTrue(lies_apart(web, caught.exception.three))
        else:
            self.assertIs(is_bare(web, caught.exception.ring), True)

    def test_against_all_line_orders(self):
        for web in cases():
            rows = list(permutations(range(web[0])))
            found = [row for row in rows if is_line(web, row)]
            even = [row for row in found if is_line(web, row[::-1])]
            self.assertEqual(line_order_count(web), len(found))
            for at, row in list(enumerate(found))[::max(1, len(found) // 20)]:
                self.assertEqual(nth_line_order(web, at), row)
                self.assertIs(is_order(web, row[::-1]), True)
            for number in (len(found), len(found) + 1, BIG):
                self.assertIsNone(nth_line_order(web, number))
            for row in rows[::max(1, len(rows) // 50)] + found[:9] + even[:9]:
                self.assertIs(is_line_order(web, row), row in found)
                self.assertIs(is_even_order(web, row), row in even)
            self.assertIs(bool(found), bool(lot_rows(web)))
            if even:
                self.assertEqual(even_order(web), even[0])
                self.assertIsNone(claw(web))
            elif found:
                with self.assertRaises(NotEven) as caught:
                    even_order(web)
                self.assertEqual(caught.exception.claw, claw(web))

    def test_rows_of_any_value(self):
        path = path_web(4)
        for value in [*ODD_VALUES, [0, 1, 2, 3], (0, 1, 2, 2), (0, 1, 2, 4), (False, 1, 2, 3), (0, 1, 2, None),
                      (0, 1, 2), (0, 1, 2, 3, 4), (0, 1, 2, deep(list)), (0, 1, 2, BIG), (), (0, 1, 2, "3")]:
            for function in (is_line_order, is_even_order):
                self.assertIs(function(path, value), False, value)
            if value != (0, 1, 2):
                self.assertIs(is_lot_row(path, value), False, value)
        self.assertEqual([is_lot_row(path, row) for row in ((0, 1, 2), (2, 1, 0), (1, 0, 2), [0, 1, 2], (0, True, 2))],
                         [True, True, False, False, False])
        self.assertIs(is_lot_row(parted_web(12, 3), tuple(range(81))), False)

    def test_edges(self):
        self.assertEqual([stretches(bare_web(1)), even_order(bare_web(1)), lot_row_count(bare_web(1))], [((0, 0),), (0,), 1])
        self.assertEqual([lot_row_count(bare_web(12)), line_order_count(bare_web(12))], [479001600] * 2)
        self.assertEqual([lot_row_count(full_web(12)), line_order_count(full_web(12))], [1, 479001600])
        self.assertEqual(nth_line_order(full_web(12), 479001599), tuple(range(12))[::-1])
        self.assertIsNone(nth_line_order(full_web(12), 479001600))
        self.assertEqual([lot_row_count(path_web(12)), lot_row_count(star_web(12)), lot_row_count(ring_web(12))],
                         [2, 39916800, 0])
        self.assertEqual([nth_lot_row(ring_web(12), 0), nth_line_order(ring_web(12), 0)], [None, None])
        self.assertEqual(stretches(full_web(12)), ((0, 0),) * 12)
        self.assertEqual(even_order(path_web(12)), tuple(range(12)))
        self.assertEqual(claw(star_web(12)), (0, (1, 2, 3)))

    def test_webs_of_twelve(self):
        webs = [web for web, _ in stretched_webs(12, 12, 113)] + webs_of_twelve()[::3] + leaving_webs(12, 6, 114)
        for web in webs:
            count = line_order_count(web)
            self.assertIs(count > 0, lot_row_count(web) > 0)
            self.assertIs(count > 0, is_leaving(web) and apart_three(web) is None)
            if not count:
                self.assert_told(web, [])
                continue
            self.assertIs(is_stretched(web, stretches(web)), True)
            for number in (0, count // 2, count - 1):
                row = nth_line_order(web, number)
                self.assertTrue(is_line(web, row) and is_line_order(web, row) and is_order(web, row[::-1]))
            last = nth_lot_row(web, lot_row_count(web) - 1)
            self.assertIs(is_lot_row(web, last), True)
            self.assertEqual(nth_lot_row(web, lot_row_count(web)), None)
            self.assertIs(is_stretched(web, row_stretches(web, last)), True)
            if claw(web) is None:
                self.assertIs(is_even_order(web, even_order(web)), True)
            else:
                with self.assertRaises(NotEven):
                    even_order(web)


class ApartTest(unittest.TestCase):

    def test_against_all_lots(self):
        for web in cases() + some_webs(7, 14, 115) + [SPIDER]:
            found = [lot for lot in combinations(range(web[0]), 3) if lies_apart(web, lot)]
            self.assertEqual(apart_three(web), found[0] if found else None)
            for lot in lots(web[0]):
                self.assertIs(is_apart_three(web, lot), lot in found)
                told = apart_ways(web, lot)
                if lot not in found:
                    self.assertIsNone(told)
                    self.assertIs(is_apart_ways(web, lot, ((0,), (0,), (0,))), False)
                    continue
                x, y, z = lot
                self.assertTrue(type(told) is tuple and len(told) == 3)
                self.assertTrue(told[0] in clear(web, x, y, z) and told[1] in clear(web, x, z, y)
                                and told[2] in clear(web, y, z, x))
                self.assertIs(is_apart_ways(web, lot, told), True)

    def test_all_ways(self):
        for web in [web for web in some_webs(6, 30, 116) + [NET, SPIDER, ring_web(6)] if apart_three(web)]:
            lot = apart_three(web)
            x, y, z = lot
            found = [clear(web, x, y, z), clear(web, x, z, y), clear(web, y, z, x)]
            for way in found[0]:
                self.assertIs(is_apart_ways(web, lot, (way, found[1][-1], found[2][-1])), True)
                self.assertIs(is_apart_ways(web, lot, (way[::-1], found[1][-1], found[2][-1])), False)
                self.assertIs(is_apart_ways(web, lot, (found[1][-1], way, found[2][-1])), False)

    def test_ways_of_any_value(self):
        lot, right = (4, 5, 6), ((4, 1, 0, 2, 5), (4, 1, 0, 3, 6), (5, 2, 0, 3, 6))
        self.assertIs(is_apart_ways(SPIDER, lot, right), True)
        for value in [*ODD_VALUES, [*right], right[:2], (*right, right[0]), ([*right[0]], *right[1:]), right[::-1],
                      (right[0][::-1], *right[1:]), ((), *right[1:]), ((4, 5), *right[1:]), (None, *right[1:]),
                      ((4, 1, 0, 2, 2, 5), *right[1:]), ((4, 1, 0, 1, 0, 2, 5), *right[1:]), ((4,), *right[1:]),
                      ((4, 1, 0, 2), *right[1:]), ((1, 0, 2, 5), *right[1:]), ((4, True, 0, 2, 5), *right[1:]),
                      ((4, 1, 0, 2, 5, 7), *right[1:]), ((4, BIG, 0, 2, 5), *right[1:]), (*right[:2], deep(tuple))]:
            self.assertIs(is_apart_ways(SPIDER, lot, value), False, value)
        for other in ((), (4,), (4, 5), (0, 4, 5), (3, 5, 6), (3, 4, 5, 6)):
            self.assertIs(is_apart_ways(SPIDER, other, right), False)
        self.assertEqual(apart_three(ring_web(6)), (0, 2, 4))
        self.assertIs(is_apart_ways(ring_web(6), (0, 2, 4), ((0, 1, 2), (0, 5, 4), (2, 3, 4))), True)
        self.assertIs(is_apart_ways(ring_web(6), (0, 2, 4), ((0, 5, 4, 3, 2), (0, 5, 4), (2, 3, 4))), False)

    def test_claws(self):
        for web in cases() + some_webs(7, 14, 117) + webs_of_twelve():
            found = [(x, lot) for x in range(web[0]) for lot in combinations(oracle.near(web, x), 3)
                     if oracle.none_tied(web, lot)]
            self.assertEqual(claw(web), found[0] if found else None)


class FactsTest(unittest.TestCase):

    def test_which_webs_have_stretches(self):
        for web in cases() + leaving_webs(7, 12, 118):
            has = is_leaving(web) and apart_three(web) is None
            self.assertEqual([lot_row_count(web) > 0, line_order_count(web) > 0], [has, has])
        for web, _ in stretched_webs(9, 12, 119):
            self.assertEqual([is_leaving(web), apart_three(web)], [True, None])

    def test_left_ends_give_a_line_order(self):
        for web, rows in stretched_webs(9, 20, 120):
            for turn in (1, -1):
                row = tuple(sorted(range(9), key=lambda x: (rows[x][0], turn * x)))
                self.assertIs(is_line_order(web, row), True)
                for a, b, c in combinations(row, 3):
                    if not oracle.tied(web, a, b) and not oracle.tied(web, b, c):
                        self.assertFalse(oracle.tied(web, a, c))

    def test_fewest_integers(self):
        for web, rows in stretched_webs(6, 30, 121):
            told = stretches(web)
            many = len(lot_oracle.whole_lots(web))
            self.assertEqual(sorted({spot for row in told for spot in range(row[0], row[1] + 1)}), list(range(many)))
            ends = [end for row in rows for end in row]
            self.assertGreaterEqual(max(ends) - min(ends) + 1, many)

    def test_stretches_of_one_length(self):
        for length in (0, 1, 3):
            for web, rows in stretched_webs(8, 12, 122):
                same = web_of_stretches(tuple((left, left + length) for left, _ in rows))
                self.assertIsNone(claw(same))
                self.assertIs(is_even_order(same, even_order(same)), True)
        for web in (bare_web(12), full_web(12), path_web(12), block_web(12, 5)):
            self.assertIs(is_even_order(web, even_order(web)), True)

    def test_webs_without_stretches(self):
        for web in (SPIDER, NET, ring_web(4), two_sided_web(12), beside(ring_web(5), path_web(4)), beside(SPIDER, bare_web(5))):
            self.assertEqual([lot_row_count(web), line_order_count(web), nth_lot_row(web, 0), nth_line_order(web, 0)],
                             [0, 0, None, None])
            with self.assertRaises(InvalidRow):
                row_stretches(web, tuple(range(len(lot_oracle.whole_lots(web)))))


if __name__ == "__main__":
    unittest.main()

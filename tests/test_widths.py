"""[33], I5 to I8: widths and thickets."""

import unittest
from itertools import combinations, permutations

from leaveorder.errors import InvalidThicket, TooMany
from leaveorder.fillings import fewest_count, filled, filling_by
from leaveorder.leaving import is_leaving
from leaveorder.webs import beside, inner, is_tied, mirrored, pieces, with_tie
from leaveorder.whole_lots import greatest_lot
from leaveorder.widths import (is_thicket, least_width_row, meeting_lot, thicket_order, widest_thicket, width, width_by)
from tests import lot_oracle, oracle
from tests.at_hand import (BIG, ODD_VALUES, all_webs, bare_web, block_web, deep, full_web, leaving_webs, lots, pairs,
                           parted_web, path_web, ring_web, some_webs, star_web, two_sided_web, webs_of_twelve)


def cases():
    webs = [web for count in (1, 2, 3, 4) for web in all_webs(count)] + all_webs(5)[::9] + some_webs(6, 8, 95)
    return webs + [ring_web(6), parted_web(6, 2), parted_web(6, 3)]


def wide_by(web, row):
    """By the words of the document."""
    ties, left, widest = set(web[1]), set(row), 0
    for x in row:
        left.discard(x)
        beside_it = sorted(y for y in left if (min(x, y), max(x, y)) in ties)
        ties |= set(combinations(beside_it, 2))
        widest = max(widest, len(beside_it))
    return widest


def goes_round(web):
    """Whether some ties go round."""
    return len(web[1]) > web[0] - len(oracle.pieces(web, ()))


def touch(web, lot, other):
    return bool(set(lot) & set(other)) or any(oracle.tied(web, x, y) for x in lot for y in other)


def is_plain_thicket(web, value):
    return (value == tuple(sorted(set(value))) and len(value) > 0 and all(oracle.joined(web, lot) for lot in value)
            and all(touch(web, lot, other) for lot, other in combinations(value, 2)))


def first_meeting(web, value):
    return [lot for lot in lots(web[0]) if all(set(lot) & set(other) for other in value)][0]


class WidthsTest(unittest.TestCase):

    def test_against_all_rows(self):
        for web in cases():
            rows = list(permutations(range(web[0])))
            found = {row: wide_by(web, row) for row in rows}
            least = min(found.values())
            self.assertEqual(width(web), least)
            for row in rows[::max(1, len(rows) // 60)]:
                self.assertEqual(width_by(web, row), found[row])
            told = least_width_row(web)
            self.assertTrue(type(told) is tuple and found[told] == least)

    def test_the_width_is_that_of_a_filling(self):
        for web in cases()[::3]:
            if web[0] > 5:
                continue
            missing = [tie for tie in pairs(web[0]) if tie not in web[1]]
            fillings = [row for size in range(len(missing) + 1) for row in combinations(missing, size)]
            wholes = [max(map(len, lot_oracle.whole_lots(filled(web, row)))) for row in fillings
                      if is_leaving(filled(web, row))]
            self.assertEqual(width(web), min(wholes) - 1)

    def test_edges(self):
        for count in (1, 2, 4, 5, 8, 11, 12):
            self.assertEqual([width(bare_web(count)), width(full_web(count))], [0, count - 1])
            self.assertEqual(width(path_web(count)), 1 if count > 1 else 0)
            if count > 3:
                self.assertEqual(width(ring_web(count)), 2)
        self.assertEqual([width(star_web(12)), width(two_sided_web(12)), width(block_web(12, 4))], [1, 6, 3])
        self.assertEqual([width(parted_web(12, 3)), width(parted_web(12, 2)), width(mirrored(ring_web(12)))], [9, 10, 9])
        self.assertEqual([width_by(star_web(12), tuple(range(12))), width_by(star_web(12), tuple(range(12))[::-1])], [11, 1])
        self.assertEqual([width_by(bare_web(1), (0,)), least_width_row(bare_web(1))], [0, (0,)])

    def test_webs_of_twelve(self):
        for web in webs_of_twelve()[::4]:
            told = least_width_row(web)
            self.assertEqual([width_by(web, told), wide_by(web, told)], [width(web)] * 2)
            self.assertEqual(len(greatest_lot(filled(web, filling_by(web, told)))), width(web) + 1)
            if is_leaving(web):
                self.assertEqual(width(web), len(greatest_lot(web)) - 1)


class ThicketsTest(unittest.TestCase):

    def test_all_small_sets(self):
        for web in [web for count in (1, 2, 3) for web in all_webs(count)] + all_webs(4)[::7]:
            every = sorted(lots(web[0]))
            most = 0
            for size in range(len(every) + 1 if web[0] < 4 else 5):
                for value in combinations(every, size):
                    right = is_plain_thicket(web, value)
                    self.assertIs(is_thicket(web, value), right, (web, value))
                    if right:
                        lot = first_meeting(web, value)
                        self.assertEqual([meeting_lot(web, value), thicket_order(web, value)], [lot, len(lot)])
                        most = max(most, len(lot))
                    else:
                        for function in (meeting_lot, thicket_order):
                            with self.assertRaises(InvalidThicket):
                                function(web, value)
            if web[0] < 4:
                self.assertEqual(most, width(web) + 1)

    def test_no_thicket_is_of_a_greater_order(self):
        for web in all_webs(4)[::5]:
            joined = sorted(lot for lot in lots(4) if oracle.joined(web, lot))
            sets = [()]
            for lot in joined:
                sets += [(*held, lot) for held in sets if all(touch(web, lot, other) for other in held)]
            self.assertEqual(max(len(first_meeting(web, held)) for held in sets if held), width(web) + 1)

    def test_the_widest(self):
        webs = cases() + some_webs(7, 20, 96) + some_webs(8, 60, 97) + leaving_webs(8, 10, 98)
        webs += [ring_web(8), two_sided_web(8), full_web(8), bare_web(8), parted_web(8, 2), parted_web(8, 3)]
        for web in webs:
            told = widest_thicket(web)
            self.assertTrue(is_thicket(web, told) and is_plain_thicket(web, told))
            self.assertEqual(thicket_order(web, told), width(web) + 1)
            self.assertEqual(meeting_lot(web, told), first_meeting(web, told))

    def test_any_value(self):
        square = ring_web(4)
        for value in [*ODD_VALUES, (), [(0,), (1,)], ((0,), [1]), ((1,), (0,)), ((0,), (0,)), ((0,), ()), ((),), (0, 1),
                      ((0,), (4,)), ((0,), (True,)), ((0,), (BIG,)), ((0,), (1, 0)), ((0, 0),), ((0,), deep(tuple)),
                      ((0,), None), ((0, 2),), ((0,), (1, 3))]:
            self.assertIs(is_thicket(square, value), False, value)
        self.assertIs(is_thicket(square, ((0,), (0, 1), (0, 1, 2), (1,), (1, 2, 3))), True)
        self.assertIs(is_thicket(bare_web(1), ((0,),)), True)
        many = tuple(sorted(lot for lot in lots(12) if 1 < len(lot) < 5))[:600]
        self.assertIs(is_thicket(full_web(12), many), True)
        self.assertEqual(meeting_lot(full_web(12), many), first_meeting(full_web(12), many))
        self.assertEqual(meeting_lot(bare_web(12), ((11,),)), (11,))
        self.assertEqual(meeting_lot(full_web(12), tuple((x,) for x in range(12))), tuple(range(12)))

    def test_too_many(self):
        for web in (bare_web(9), ring_web(12)):
            with self.assertRaises(TooMany) as caught:
                widest_thicket(web)
            self.assertEqual(caught.exception.count, 8)
        self.assertEqual(widest_thicket(full_web(8)), tuple((x,) for x in range(8)))


class FactsTest(unittest.TestCase):

    def test_values_of_the_width(self):
        for web in cases() + some_webs(7, 10, 99):
            self.assertIs(width(web) == 0, web[1] == ())
            self.assertIs(width(web) <= 1, not goes_round(web))
            self.assertIs(width(web) == web[0] - 1, len(web[1]) == len(pairs(web[0])))
            if is_leaving(web):
                self.assertEqual(width(web), len(greatest_lot(web)) - 1)

    def test_a_tie_more(self):
        for web in cases()[::2] + some_webs(8, 6, 100):
            for x, y in [tie for tie in pairs(web[0]) if tie not in web[1]]:
                self.assertIn(width(with_tie(web, x, y)) - width(web), (0, 1))

    def test_parted_by_a_tied_lot(self):
        webs = [with_tie(beside(ring_web(4), full_web(4)), 0, 4), beside(ring_web(5), path_web(3)), path_web(7),
                with_tie(beside(two_sided_web(6), path_web(3)), 5, 6)]
        for web in webs + some_webs(7, 6, 101)[:3] + leaving_webs(7, 2, 102):
            for lot in lots(web[0])[:29]:
                found = pieces(web, lot)
                if len(found) > 1 and is_tied(web, lot):
                    parts = [inner(web, tuple(sorted(piece + lot))) for piece in found]
                    self.assertEqual(width(web), max(width(part) for part in parts))

    def test_least_width_and_fewest_ties_are_two_things(self):
        unlike = 0
        for web in some_webs(7, 30, 103):
            self.assertGreaterEqual(len(filling_by(web, least_width_row(web))), fewest_count(web))
            unlike += len(filling_by(web, least_width_row(web))) > fewest_count(web)
        self.assertGreater(unlike, 0)


if __name__ == "__main__":
    unittest.main()

"""[15], [16], [17], C2 to C5: lots that part two places, and lots that cross."""

import unittest
from itertools import combinations

from leaveorder.bare_rounds import is_bare
from leaveorder.errors import InvalidPlace, NotLeaving, NotParting
from leaveorder.leaving import is_leaving
from leaveorder.partings import (fewest_parting, first_crossing, full_pieces, is_crossing, is_least_parting, is_parting,
                                 least_in, part_counts, partings, partings_of)
from leaveorder.webs import beside, is_tied
from leaveorder.whole_lots import tied_counts, whole_lots
from tests import lot_oracle, oracle
from tests.at_hand import (all_webs, bare_web, block_web, full_web, large_webs, leaving_webs, lots, pairs, path_web,
                           ring_web, some_webs, star_web, tied_twice, two_sided_web, ways_web, webs_of_twelve)


def tiny_webs():
    """All webs of 1 to 4 places, some of 5."""
    return [web for count in (1, 2, 3, 4) for web in all_webs(count)] + all_webs(5)[::11]


def asked_webs():
    return (tiny_webs() + some_webs(6, 15, 61) + leaving_webs(6, 15, 62)
            + [ring_web(6), two_sided_web(6), beside(ring_web(4), path_web(2)), block_web(6, 2), star_web(6)])


class PartingTest(unittest.TestCase):

    def test_all_lots_and_places_of_small_webs(self):
        for web in tiny_webs() + asked_webs()[-20::5]:
            for x, y in pairs(web[0]):
                found = lot_oracle.parting_lots(web, x, y)
                least = lot_oracle.least_lots(web, x, y)
                for lot in lots(web[0]):
                    for places in ((x, y), (y, x)):
                        self.assertIs(is_parting(web, lot, *places), lot in found, (web, lot, x, y))
                        self.assertIs(is_least_parting(web, lot, *places), lot in least, (web, lot, x, y))
                        self.assert_least_in(web, lot, places, found, least)

    def assert_least_in(self, web, lot, places, found, least):
        if lot in found:
            told = least_in(web, lot, *places)
            self.assertIn(told, least)
            self.assertLessEqual(set(told), set(lot))
            return
        with self.assertRaises(NotParting) as caught:
            least_in(web, lot, *places)
        way = caught.exception.way
        self.assertIs(type(way), tuple)
        if places[0] in lot or places[1] in lot:
            self.assertEqual(way, ())
        else:
            self.assertEqual((way[0], way[-1]), places)
            self.assertEqual(len(set(way)), len(way))
            self.assertFalse(set(way) & set(lot))
            self.assertTrue(all(oracle.tied(web, x, y) for x, y in zip(way, way[1:])), (web, way))

    def test_lists_of_two_places(self):
        for web in asked_webs():
            for x, y in pairs(web[0]):
                least = lot_oracle.least_lots(web, x, y)
                for places in ((x, y), (y, x)):
                    self.assertEqual(partings_of(web, *places), least, (web, places))
                    self.assertEqual(fewest_parting(web, *places), least[0] if least else None)

    def test_lists_of_the_web(self):
        for web in asked_webs():
            self.assertEqual(partings(web), lot_oracle.all_least_lots(web), web)

    def test_larger_webs(self):
        # What is least can be told by the pieces alone, as C3 says; that this is so is tested with the facts.
        for web in some_webs(8, 8, 63) + leaving_webs(8, 6, 64) + webs_of_twelve()[::11]:
            told = [(lot, lot_oracle.full_pieces(web, lot)) for lot in lots(web[0])]
            told = [(lot, sides) for lot, sides in told if len(sides) > 1]
            self.assertEqual(partings(web), [lot for lot, _ in told], web)
            for x, y in ((0, 1), (web[0] - 1, 2), (3, 5)):
                between = [lot for lot, sides in told if len([side for side in sides if x in side or y in side]) == 2]
                self.assertEqual(partings_of(web, x, y), between)

    def test_full_pieces(self):
        for web in asked_webs()[::2] + some_webs(7, 5, 65):
            for lot in lots(web[0]):
                self.assertEqual(full_pieces(web, lot), lot_oracle.full_pieces(web, lot), (web, lot))

    def test_edges(self):
        self.assertEqual([partings(bare_web(1)), partings(full_web(12)), full_pieces(bare_web(1), (0,))], [[], [], []])
        self.assertEqual(partings(bare_web(12)), [()])
        self.assertEqual(full_pieces(bare_web(12), ()), [(place,) for place in range(12)])
        self.assertEqual([full_pieces(full_web(12), tuple(range(12))), full_pieces(bare_web(12), (0,))], [[], []])
        self.assertEqual(partings_of(bare_web(12), 11, 0), [()])
        self.assertEqual([fewest_parting(bare_web(12), 11, 0), fewest_parting(full_web(12), 11, 0)], [(), None])
        self.assertEqual(partings_of(beside(ring_web(4), path_web(3)), 0, 5), [()])
        self.assertEqual(partings_of(beside(ring_web(4), path_web(3)), 0, 2), [(1, 3)])
        self.assertEqual(partings(beside(ring_web(4), path_web(3))), [(), (5,), (0, 2), (1, 3)])
        self.assertEqual(partings(path_web(12)), [(place,) for place in range(1, 11)])
        self.assertEqual(partings(two_sided_web(12)), [tuple(range(6)), tuple(range(6, 12))])
        self.assertEqual(len(partings_of(ways_web(2), 0, 1)), 32)
        self.assertEqual(least_in(path_web(12), tuple(range(1, 11)), 0, 11) in [(x,) for x in range(1, 11)], True)
        self.assertEqual(is_parting(bare_web(2), (), 0, 1), True)
        self.assertEqual(is_parting(bare_web(3), (0, 1, 2), 0, 1), False)

    def test_lot_order_of_the_list(self):
        # Fewer places come first, though another lot is ahead of them as Python orders tuples.
        web = (6, ((0, 1), (0, 3), (1, 2), (2, 3), (3, 4), (4, 5)))
        self.assertEqual(partings(web), [(3,), (4,), (0, 2), (1, 3)])
        self.assertEqual(partings_of(web, 1, 5), [(3,), (4,), (0, 2)])
        self.assertEqual(fewest_parting(web, 1, 5), (3,))

    def test_not_parting(self):
        for web, lot, places, ways in (
                (path_web(4), (), (0, 3), [(0, 1, 2, 3)]), (path_web(4), (), (3, 0), [(3, 2, 1, 0)]),
                (path_web(4), (0,), (0, 3), [()]), (path_web(4), (3,), (0, 3), [()]), (path_web(4), (2,), (0, 1), [(0, 1)]),
                (path_web(4), (0, 3), (0, 3), [()]), (path_web(4), (0, 1, 2, 3), (0, 3), [()])):
            with self.assertRaises(NotParting) as caught:
                least_in(web, lot, *places)
            self.assertIn(caught.exception.way, ways)

    def test_the_same_place_twice(self):
        for function, arguments in ((is_parting, ((), 1, 1)), (is_least_parting, ((), 1, 1)), (least_in, ((), 1, 1)),
                                    (partings_of, (1, 1)), (fewest_parting, (1, 1))):
            with self.assertRaises(InvalidPlace):
                function(bare_web(3), *arguments)


class CrossingTest(unittest.TestCase):

    def test_all_lots_of_small_webs(self):
        for web in tiny_webs()[::3] + [ring_web(5), path_web(5)]:
            for lot in lots(web[0]):
                for other in lots(web[0]):
                    self.assertIs(is_crossing(web, lot, other), lot_oracle.crosses(web, lot, other), (web, lot, other))

    def test_the_first_two(self):
        for web in asked_webs() + [tied_twice(ring_web(4), path_web(3)), ring_web(7)]:
            found = lot_oracle.all_least_lots(web)
            told = [(lot, other) for lot, other in combinations(found, 2) if lot_oracle.crosses(web, lot, other)]
            self.assertEqual(first_crossing(web), told[0] if told else None, web)

    def test_edges(self):
        self.assertEqual([first_crossing(bare_web(1)), first_crossing(bare_web(12)), first_crossing(full_web(12))],
                         [None, None, None])
        self.assertEqual(first_crossing(ring_web(12)), ((0, 2), (1, 3)))
        self.assertEqual(first_crossing(two_sided_web(12)), (tuple(range(6)), tuple(range(6, 12))))
        self.assertIs(is_crossing(ring_web(4), (0, 2), (0, 2)), False)
        self.assertIs(is_crossing(bare_web(12), (), (3, 7)), True)
        self.assertIs(is_crossing(bare_web(12), (3,), (3, 7)), False)
        self.assertIs(is_crossing(bare_web(12), tuple(range(12)), tuple(range(12))), False)
        self.assertIs(is_crossing(bare_web(12), (), ()), False)


class CountsTest(unittest.TestCase):

    def test_numbers(self):
        for web in asked_webs() + large_webs() + webs_of_twelve():
            if is_leaving(web):
                self.assertEqual(part_counts(web), [(lot, len(lot_oracle.full_pieces(web, lot)) - 1)
                                                    for lot in partings(web)])
            else:
                with self.assertRaises(NotLeaving) as caught:
                    part_counts(web)
                self.assertTrue(is_bare(web, caught.exception.ring))

    def test_edges(self):
        self.assertEqual([part_counts(bare_web(1)), part_counts(full_web(12))], [[], []])
        self.assertEqual(part_counts(bare_web(12)), [((), 11)])
        self.assertEqual(part_counts(star_web(12)), [((0,), 10)])
        self.assertEqual(part_counts(beside(star_web(4), path_web(3))), [((), 1), ((0,), 2), ((5,), 1)])


class FactsTest(unittest.TestCase):

    def test_what_is_counted(self):
        for web in asked_webs() + leaving_webs(10, 10, 66) + webs_of_twelve():
            if not is_leaving(web):
                continue
            wholes, counts = whole_lots(web), part_counts(web)
            self.assertEqual(sum(len(lot) for lot in wholes) - sum(len(lot) * number for lot, number in counts), web[0])
            self.assertEqual(len(wholes), 1 + sum(number for _, number in counts))
            for size, count in enumerate(tied_counts(web)):
                whole = sum(len(list(combinations(lot, size))) for lot in wholes)
                part = sum(len(list(combinations(lot, size))) * number for lot, number in counts)
                self.assertEqual(count, whole - part)

    def test_least_parting_lots_by_full_pieces(self):
        for web in asked_webs()[::2]:
            told = partings(web)
            for lot in lots(web[0]):
                sides = full_pieces(web, lot)
                self.assertEqual(lot in told, len(sides) >= 2)
                for x, y in pairs(web[0]):
                    unlike = len([side for side in sides if x in side or y in side]) == 2
                    self.assertIs(is_least_parting(web, lot, x, y), unlike)

    def test_either_tied_or_crossing(self):
        for web in asked_webs() + large_webs() + webs_of_twelve():
            self.assertIs(is_leaving(web), all(is_tied(web, lot) for lot in partings(web)), web)
            self.assertIs(is_leaving(web), first_crossing(web) is None)

    def test_each_of_two_crosses_the_other_or_neither_does(self):
        for web in asked_webs() + some_webs(9, 6, 67):
            for lot, other in combinations(partings(web), 2):
                self.assertIs(is_crossing(web, lot, other), is_crossing(web, other, lot))

    def test_what_two_whole_lots_have_in_common(self):
        for web in asked_webs() + webs_of_twelve():
            if is_leaving(web):
                common = [tuple(sorted(set(lot) & set(other))) for lot, other in combinations(whole_lots(web), 2)]
                self.assertLessEqual(set(partings(web)), set(common))


if __name__ == "__main__":
    unittest.main()

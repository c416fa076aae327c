"""[11], [12], [13], B1 to B6: rounds, bare rounds and the rest."""

import unittest
from itertools import combinations, permutations

from leaveorder.bare_rounds import (bare_ring, bare_rings, bare_through, bared, is_bare, least_bare, least_stuck, rest,
                                    rest_among, ring_told, ties_across)
from leaveorder.errors import InvalidRow, TooMany
from leaveorder.webs import beside, inner, is_tied, neighbours, with_tie
from tests import oracle
from tests.at_hand import (ODD_VALUES, all_webs, bare_web, deep, full_web, large_webs, lots, ring_web, small_webs,
                           some_webs, two_sided_web)


def webs_of_six():
    return some_webs(6, 40, 9) + [ring_web(6), two_sided_web(6), beside(ring_web(4), bare_web(2)), full_web(6)]


class BareTest(unittest.TestCase):

    def test_lists_of_all_bare_rounds(self):
        for web in small_webs() + webs_of_six() + some_webs(7, 6, 10):
            told = bare_rings(web)
            self.assertEqual(told, oracle.bare_rounds(web), web)
            self.assertIsInstance(told, list)
            self.assertEqual(least_bare(web), told[0] if told else None)

    def test_larger_webs(self):
        for web in [*large_webs(), beside(ring_web(5), ring_web(5)), beside(ring_web(6), ring_web(4))]:
            rings = [oracle.ring_of(web, lot) for lot in oracle.bare_lots(web)]
            rings = sorted(rings, key=lambda ring: (len(ring), ring))
            self.assertEqual(least_bare(web), rings[0] if rings else None)
            if web[0] <= 10:
                self.assertEqual(bare_rings(web), rings)

    def test_the_sequence_of_the_list(self):
        # The round of six places stands first as Python orders tuples, and last by the number of places.
        web = beside(ring_web(6), ring_web(4))
        self.assertEqual(bare_rings(web), [(6, 7, 8, 9), (0, 1, 2, 3, 4, 5)])
        self.assertEqual(least_bare(web), (6, 7, 8, 9))
        self.assertEqual(len(bare_rings(two_sided_web(10))), 100)

    def test_more_than_ten_places(self):
        for web in (bare_web(11), full_web(12), ring_web(11), two_sided_web(12)):
            with self.assertRaises(TooMany) as caught:
                bare_rings(web)
            self.assertEqual(caught.exception.count, 10)
        self.assertEqual(bare_rings(ring_web(10)), [tuple(range(10))])
        self.assertEqual(least_bare(ring_web(12)), tuple(range(12)))
        self.assertEqual(least_bare(full_web(12)), None)

    def test_a_free_ring_is_one(self):
        for web in small_webs() + webs_of_six() + large_webs():
            ring = bare_ring(web)
            if ring is None:
                self.assertEqual(oracle.bare_lots(web), [])
            else:
                self.assertTrue(is_bare(web, ring))
            self.assertEqual(bare_ring(web), ring)

    def test_is_bare_of_rows_of_places(self):
        for web in [*all_webs(4), *all_webs(5)[::40], ring_web(6), two_sided_web(6)]:
            bare = oracle.bare_rounds(web)
            for size in range(web[0] + 1):
                for row in permutations(range(web[0]), size):
                    self.assertIs(is_bare(web, row), row in bare, (web, row))

    def test_is_bare_of_any_value(self):
        web = ring_web(4)
        self.assertIs(is_bare(web, (0, 1, 2, 3)), True)
        wrong = [
            [0, 1, 2, 3], (False, 1, 2, 3), (0, True, 2, 3), (0, 1, 2), (0, 1, 2, 3, 0), (0, 1, 2, 3, 3), (0, 1, 2, 4),
            (-4, 1, 2, 3), (0, 1, 2, -1), (0, 3, 2, 1), (1, 2, 3, 0), (0, 1, 2, "3"), (0, 1, 2, None), (0, 1, 2, (3,)),
            (0, 1, 2, 10 ** 89), ((0, 1, 2, 3),), ((0, 1), (1, 2)), "abcd", (0, 2, 1, 3), (0, 1, 2, [3]), web,
        ]
        for value in [*wrong, *ODD_VALUES]:
            self.assertIs(is_bare(web, value), False, value)
            self.assertIs(is_bare(ring_web(12), value), False, value)

    def test_three_places_that_go_round_are_none(self):
        self.assertIs(is_bare(full_web(3), (0, 1, 2)), False)
        self.assertEqual([bare_rings(full_web(count)) for count in range(1, 11)], [[]] * 10)

    def test_through_a_tie(self):
        for web in small_webs() + webs_of_six() + large_webs():
            bare = oracle.bare_lots(web)
            for tie in web[1]:
                ring = bare_through(web, tie)
                if ring is None:
                    self.assertFalse([lot for lot in bare if tie[0] in lot and tie[1] in lot])
                else:
                    self.assertTrue(is_bare(web, ring))
                    self.assertTrue(tie in oracle.steps(ring) or tie[::-1] in oracle.steps(ring))


class RowTest(unittest.TestCase):

    def test_the_told_form_of_each_row(self):
        for web in [full_web(5), *all_webs(4), *webs_of_six()[::8]]:
            for size in range(web[0] + 1):
                for row in permutations(range(web[0]), size):
                    if oracle.goes_round(web, row):
                        self.assertEqual([ring_told(web, row)], oracle.told_forms(row), (web, row))
                        self.assertEqual(ties_across(web, row), oracle.across(web, row), (web, row))
                    else:
                        for asked in (ring_told, ties_across, bared):
                            with self.assertRaises(InvalidRow):
                                asked(web, row)

    def test_long_rows(self):
        row = (5, 6, 7, 8, 9, 10, 11, 0, 1, 2, 3, 4)
        self.assertEqual(ring_told(ring_web(12), row), tuple(range(12)))
        self.assertEqual(ring_told(ring_web(12), row[::-1]), tuple(range(12)))
        self.assertEqual(ties_across(ring_web(12), row), ())
        self.assertEqual(len(ties_across(full_web(12), row)), 66 - 12)
        self.assertEqual(ring_told(full_web(12), (11, 4, 7, 9)), (4, 7, 9, 11))
        self.assertEqual(ring_told(full_web(12), (4, 11, 9, 7)), (4, 7, 9, 11))

    def test_rows_of_other_kinds(self):
        web = full_web(5)
        wrong = [
            [0, 1, 2, 3], (0, 1, 2), (), (0, 1, 2, 2), (0, 1, 2, 5), (0, 1, 2, -1), (0, True, 2, 3), (False, 1, 2, 3),
            "abcd", ("a", "b", "c", "d"), (0, 1, 2, None), (0, 1, 2, 10 ** 89), (0, 1, 2, 3, 4, 0), (0, 1, 2, (3,)),
            deep(tuple), (0, 1, 2, deep(list)),
        ]
        for row in [*wrong, *ODD_VALUES]:
            for asked in (ring_told, ties_across, bared):
                with self.assertRaises(InvalidRow, msg=row):
                    asked(web, row)

    def test_next_ones_that_are_not_tied(self):
        path = (4, ((0, 1), (1, 2), (2, 3)))
        for asked in (ring_told, ties_across, bared):
            with self.assertRaises(InvalidRow):
                asked(path, (0, 1, 2, 3))
            with self.assertRaises(InvalidRow):
                asked(ring_web(4), (0, 2, 1, 3))

    def test_bared(self):
        for web in [*small_webs(), *webs_of_six()]:
            bare = oracle.bare_rounds(web)
            for row in oracle.rounds(web):
                ring = bared(web, row)
                if ring is None:
                    self.assertFalse([other for other in bare if set(other) <= set(row)])
                else:
                    self.assertIn(ring, bare)
                    self.assertLessEqual(set(ring), set(row))

    def test_bared_looks_at_the_row_alone(self):
        # The fan of the places 0 to 3 has no bare round, the ring of the places 4 to 7 is one.
        web = beside((4, ((0, 1), (0, 2), (0, 3), (1, 2), (2, 3))), ring_web(4))
        self.assertEqual(bared(web, (0, 1, 2, 3)), None)
        self.assertEqual(bared(web, (6, 7, 4, 5)), (4, 5, 6, 7))


class RestTest(unittest.TestCase):

    def test_whatever_choices_are_taken_the_rest_is_the_same(self):
        for web in small_webs() + webs_of_six() + some_webs(8, 6, 11):
            every = tuple(range(web[0]))
            self.assertEqual(oracle.ends_of_leaving(web, every), {rest(web)}, web)

    def test_rest_among(self):
        for web in small_webs()[::2] + webs_of_six()[::3]:
            seen = {}
            for lot in lots(web[0]):
                self.assertEqual(oracle.ends_of_leaving(web, lot, seen), {rest_among(web, lot)}, (web, lot))
                if lot:
                    told = rest(inner(web, lot))
                    self.assertEqual(rest_among(web, lot), tuple(lot[at] for at in told))

    def test_edges(self):
        for web in (bare_web(1), bare_web(12), full_web(12), ring_web(12)):
            self.assertEqual(rest_among(web, ()), ())
            self.assertEqual(rest_among(web, tuple(range(web[0]))), rest(web))
        self.assertEqual([rest(bare_web(1)), rest(bare_web(12)), rest(full_web(12))], [(), (), ()])
        self.assertEqual(rest(ring_web(12)), tuple(range(12)))
        self.assertEqual(rest_among(ring_web(12), tuple(range(11))), ())
        self.assertEqual(rest(beside(ring_web(4), full_web(8))), (0, 1, 2, 3))
        self.assertEqual(rest(beside(bare_web(8), ring_web(4))), (8, 9, 10, 11))

    def test_a_rest_can_have_more_than_a_bare_round(self):
        # Two bare rounds and a way between them: no place of the way may leave.
        web = with_tie(with_tie(beside(beside(ring_web(4), bare_web(1)), ring_web(4)), 0, 4), 4, 5)
        self.assertEqual(rest(web), tuple(range(9)))

    def test_least_stuck(self):
        for web in small_webs() + webs_of_six() + some_webs(8, 8, 12) + some_webs(10, 3, 13):
            stuck = oracle.stuck_lots(web)
            self.assertEqual(least_stuck(web), stuck[0] if stuck else None, web)

    def test_least_stuck_edges(self):
        self.assertEqual([least_stuck(bare_web(1)), least_stuck(full_web(12))], [None, None])
        self.assertEqual(least_stuck(ring_web(12)), tuple(range(12)))
        self.assertEqual(least_stuck(two_sided_web(12)), (0, 1, 6, 7))
        self.assertEqual(least_stuck(beside(ring_web(5), ring_web(4))), (5, 6, 7, 8))

    def test_least_stuck_goes_by_lots_and_not_by_rounds(self):
        # Of these two rounds the first one, as Python orders tuples, has the later lot.
        web = (7, ((0, 2), (0, 3), (0, 4), (0, 6), (1, 3), (1, 6), (2, 5), (4, 5)))
        self.assertEqual(bare_rings(web)[:2], [(0, 2, 5, 4), (0, 3, 1, 6)])
        self.assertEqual(least_stuck(web), (0, 1, 3, 6))


class FactsTest(unittest.TestCase):

    def test_either_an_order_or_a_bare_round(self):
        for web in small_webs() + webs_of_six() + large_webs():
            self.assertEqual(oracle.has_order(web), bare_ring(web) is None, web)
            self.assertEqual(oracle.has_order(web), rest(web) == (), web)

    def test_the_rest_has_all_that_is_stuck(self):
        for web in small_webs() + webs_of_six() + some_webs(8, 8, 14):
            left = rest(web)
            self.assertEqual(oracle.leavers_among(web, left), [])
            for lot in oracle.stuck_lots(web):
                self.assertLessEqual(set(lot), set(left))
            for ring in bare_rings(web):
                self.assertLessEqual(set(ring), set(left))

    def test_the_places_of_bare_rounds_are_stuck(self):
        for web in small_webs() + webs_of_six() + some_webs(9, 8, 15):
            stuck = oracle.stuck_lots(web)
            rings = bare_rings(web)
            for ring in rings:
                self.assertIn(tuple(sorted(ring)), stuck)
            self.assertEqual(least_stuck(web), min([tuple(sorted(ring)) for ring in rings
                                                    if len(ring) == len(rings[0])], default=None))

    def test_the_next_ones_in_a_bare_round_are_not_tied(self):
        for web in small_webs() + webs_of_six() + some_webs(10, 8, 16):
            may = oracle.leavers_among(web, tuple(range(web[0])))
            for ring in bare_rings(web):
                for at in range(len(ring)):
                    self.assertFalse(oracle.tied(web, ring[at - 2], ring[at]))
                    self.assertNotIn(ring[at], may)

    def test_two_ways_make_a_bare_round(self):
        found = 0
        for web in webs_of_six() + all_webs(5)[::7]:
            for x, y in combinations(range(web[0]), 2):
                if oracle.tied(web, x, y):
                    continue
                for way, other in combinations(bare_ways(web, (x,), y), 2):
                    inside, outside = way[1:-1], other[1:-1]
                    if set(inside) & set(outside) or any(oracle.tied(web, a, b) for a in inside for b in outside):
                        continue
                    row = way + outside[::-1]
                    self.assertTrue(is_bare(web, ring_told(web, row)), (web, row))
                    found += 1
        self.assertGreater(found, 100)

    def test_a_tie_across_makes_two_smaller_parts(self):
        for web in small_webs() + webs_of_six():
            for row in oracle.rounds(web):
                for x, y in ties_across(web, row):
                    i, j = sorted((row.index(x), row.index(y)))
                    for part in (row[i:j + 1], row[j:] + row[:i + 1]):
                        if len(part) == 3:
                            self.assertTrue(is_tied(web, tuple(sorted(part))))
                        else:
                            self.assertLess(len(ring_told(web, part)), len(row))

    def test_without_a_bare_round_in_the_row_its_web_can_be_left(self):
        for web in small_webs() + webs_of_six():
            for row in oracle.rounds(web):
                lot = tuple(sorted(row))
                self.assertEqual(bared(web, row) is None, oracle.has_order(inner(web, lot)))


def bare_ways(web, way, end):
    """The ways from the way on to the end of unlike places no two of which are tied but neighbours on it."""
    if way[-1] == end:
        return [way]
    return [longer for place in neighbours(web, way[-1])
            if place not in way and not any(oracle.tied(web, place, x) for x in way[:-1])
            for longer in bare_ways(web, (*way, place), end)]


if __name__ == "__main__":
    unittest.main()

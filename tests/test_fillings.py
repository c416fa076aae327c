"""[30], [31], [32], I1 to I5: fillings and calm sets."""

import unittest
from itertools import combinations, permutations

from leaveorder.bare_rounds import is_bare
from leaveorder.errors import NotFilling, TooMany
from leaveorder.fillings import (fewest_count, fewest_filling, filled, filling_by, filling_by_lots, is_calm, is_filling,
                                 is_greatest_calm, is_least_filling, least_fillings, least_within, lots_of_filling,
                                 row_for, spare_ties)
from leaveorder.leaving import is_leaving, is_order
from leaveorder.partings import is_crossing, partings
from leaveorder.webs import beside, inner, is_tied, mirrored, pieces, with_tie
from tests import lot_oracle, oracle
from tests.at_hand import (BIG, ODD_VALUES, all_webs, bare_web, block_web, deep, full_web, leaving_webs, lots, pairs,
                           parted_web, path_web, ring_web, some_webs, star_web, two_sided_web, ways_web, webs_of_twelve)


def cases():
    return [web for count in (1, 2, 3, 4) for web in all_webs(count)] + all_webs(5)[::40] + [ring_web(5)]


def more_cases():
    return [web for web in some_webs(6, 8, 92) if len(web[1]) > 5] + [ring_web(6), parted_web(6, 3), parted_web(6, 2)]


def missing_ties(web):
    return [tie for tie in pairs(web[0]) if tie not in web[1]]


def with_ties(web, ties):
    return (web[0], tuple(sorted(web[1] + tuple(ties))))


def all_missing(web):
    ties = missing_ties(web)
    return [row for size in range(len(ties) + 1) for row in combinations(ties, size)]


def all_fillings(web):
    return [row for row in all_missing(web) if not oracle.bare_lots(with_ties(web, row))]


def least_of(found):
    return sorted(row for row in found if not any(set(other) < set(row) for other in found))


def by_row(web, row):
    """By the words of the document."""
    ties, left = set(web[1]), set(row)
    for x in row:
        left.discard(x)
        beside_it = sorted(y for y in left if (min(x, y), max(x, y)) in ties)
        ties |= set(combinations(beside_it, 2))
    return tuple(sorted(ties - set(web[1])))


class FillingsTest(unittest.TestCase):

    def test_against_all_fillings(self):
        for web in cases() + more_cases()[::4]:
            found = all_fillings(web)
            known = set(found)
            least = least_of(found) if len(found) < 300 else None
            for row in all_missing(web)[::1 if web[0] < 5 else 2 if web[0] < 6 else 37]:
                self.assertEqual(filled(web, row), with_ties(web, row))
                self.assertIs(is_filling(web, row), row in known)
                if least is not None:
                    self.assertIs(is_least_filling(web, row), row in least)
                if row in known:
                    self.assert_filling(web, row, known)
                else:
                    self.assert_refused(web, row)

    def assert_filling(self, web, row, known):
        spare = [tie for tie in row if tuple(other for other in row if other != tie) in known]
        self.assertEqual(spare_ties(web, row), spare)
        self.assertIs(is_least_filling(web, row), spare == [])
        told = least_within(web, row)
        self.assertTrue(type(told) is tuple and set(told) <= set(row) and told in known)
        self.assertIs(is_least_filling(web, told), True)
        order = row_for(web, row)
        self.assertTrue(set(filling_by(web, order)) <= set(row))
        if not spare:
            self.assertEqual([told, filling_by(web, order)], [row, row])
        partings_told = lot_oracle.all_least_lots(with_ties(web, row)) if web[0] < 6 else None
        if partings_told is not None:
            self.assertEqual(lots_of_filling(web, row), tuple(sorted(partings_told)))

    def assert_refused(self, web, row):
        for function in (spare_ties, least_within, row_for, lots_of_filling):
            with self.assertRaises(NotFilling) as caught:
                function(web, row)
            self.assertIs(is_bare(with_ties(web, row), caught.exception.ring), True)

    def test_the_least_ones(self):
        for web in cases() + more_cases():
            found = least_of({by_row(web, row) for row in permutations(range(web[0]))})
            if web[0] < 6:
                self.assertEqual(found, least_of(all_fillings(web)))
            self.assertEqual(least_fillings(web), found, web)
            fewest = min(len(row) for row in found)
            self.assertEqual(fewest_count(web), fewest)
            told = fewest_filling(web)
            self.assertTrue(len(told) == fewest and told in found)

    def test_by_rows(self):
        for web in cases()[::3] + more_cases():
            for row in list(permutations(range(web[0])))[::1 if web[0] < 5 else 29]:
                told = filling_by(web, row)
                self.assertEqual(told, by_row(web, row))
                self.assertIs(is_filling(web, told), True)
                self.assertIs(is_order(filled(web, told), row), True)

    def test_any_value(self):
        square = ring_web(4)
        for value in [*ODD_VALUES, [(0, 2)], ((0, 2), (1, 3)), (), ((2, 0),), ((0, 1),), ((0, 2), (0, 2)), ((0, 2, 3),),
                      ((0, 4),), ([0, 2],), ((0, BIG),), ((False, 2),), ((0, 2), None), (0, 2), ((0, 2), deep(tuple))]:
            self.assertIs(is_least_filling(square, value), False, value)
            self.assertIs(is_calm(square, value), type(value) is tuple and value == ())
            self.assertIs(is_greatest_calm(square, value), False, value)
        self.assertIs(is_least_filling(square, ((0, 2),)), True)
        self.assertIs(is_least_filling(path_web(4), ()), True)

    def test_too_many(self):
        for web in (bare_web(8), ring_web(12)):
            with self.assertRaises(TooMany) as caught:
                least_fillings(web)
            self.assertEqual(caught.exception.count, 7)
        self.assertEqual(len(least_fillings(ring_web(7))), 42)
        self.assertEqual(least_fillings(full_web(7)), [()])

    def test_edges(self):
        self.assertEqual([least_fillings(bare_web(1)), fewest_count(bare_web(1)), fewest_filling(bare_web(1))], [[()], 0, ()])
        self.assertEqual([filled(bare_web(1), ()), spare_ties(bare_web(1), ()), row_for(bare_web(1), ())],
                         [bare_web(1), [], (0,)])
        self.assertEqual(filled(bare_web(12), tuple(pairs(12))), full_web(12))
        self.assertEqual(spare_ties(bare_web(12), tuple(pairs(12))), pairs(12))
        self.assertEqual(least_within(bare_web(12), tuple(pairs(12))), ())
        self.assertEqual([fewest_count(ring_web(12)), fewest_count(two_sided_web(12))], [9, 15])
        self.assertEqual([fewest_count(full_web(12)), filling_by(star_web(12), tuple(range(12)))], [0, tuple(pairs(12)[11:])])
        self.assertEqual([fewest_count(mirrored(block_web(12, 2))), fewest_count(parted_web(12, 3))], [5, 9])

    def test_webs_of_twelve(self):
        for web in webs_of_twelve()[::2]:
            count, told = fewest_count(web), fewest_filling(web)
            self.assertEqual(len(told), count)
            self.assertIs(is_least_filling(web, told), True)
            self.assertIs(count == 0, is_leaving(web))
            up = tuple(range(web[0]))
            for row in (up, up[::-1], up[::2] + up[1::2]):
                by = filling_by(web, row)
                self.assertEqual(by, by_row(web, row))
                least = least_within(web, by)
                self.assertIs(is_least_filling(web, least), True)
                self.assertGreaterEqual(len(least), count)
                self.assertEqual(filling_by(web, row_for(web, least)), least)
                found = lots_of_filling(web, least)
                self.assertIs(is_greatest_calm(web, found), True)
                self.assertEqual(filling_by_lots(web, found), least)


class CalmTest(unittest.TestCase):

    def test_against_all_sets(self):
        for web in cases() + [web for web in more_cases() if len(partings(web)) < 10]:
            every = sorted(partings(web))
            sets = [row for size in range(len(every) + 1) for row in combinations(every, size)]
            calm = [row for row in sets if not any(lot_oracle.crosses(web, lot, other) for lot in row for other in row
                                                   if lot != other)]
            greatest = [row for row in calm if not any(set(row) < set(other) for other in calm)]
            for row in sets:
                self.assertIs(is_calm(web, row), row in calm)
                self.assertIs(is_greatest_calm(web, row), row in greatest, (web, row))
                if len(row) > 1:
                    self.assertIs(is_calm(web, row[::-1]), False)
            told = [filling_by_lots(web, row) for row in greatest]
            self.assertEqual(sorted(told), least_fillings(web))
            for row, missing in zip(greatest, told):
                self.assertEqual(lots_of_filling(web, missing), row)

    def test_other_lots(self):
        for web in (path_web(5), ring_web(5), star_web(5), bare_web(5)):
            for lot in lots(5):
                least = lot in partings(web)
                self.assertIs(is_calm(web, (lot,)), least)
                self.assertIs(is_calm(web, ([*lot],)), False)
        self.assertEqual([is_calm(path_web(4), row) for row in (((1,), (2,)), ((2,), (1,)), ((1,), (1,)), [(1,), (2,)])],
                         [True, False, False, False])
        # Ascending as tuples: a greater lot may stand ahead.
        web = with_tie(beside(ring_web(4), path_web(2)), 3, 4)
        self.assertIn(((0, 2), (3,), (4,)), [row for row in combinations(sorted(partings(web)), 3) if is_calm(web, row)])
        self.assertIs(is_calm(web, ((3,), (4,), (0, 2))), False)

    def test_filling_by_lots(self):
        for web in cases()[::5] + more_cases()[::3]:
            for row in combinations(sorted(lots(web[0])), 2):
                told = tuple(tie for tie in missing_ties(web) if any(set(tie) <= set(lot) for lot in row))
                self.assertEqual(filling_by_lots(web, row), told)
            self.assertEqual([filling_by_lots(web, ()), filling_by_lots(web, ((),))], [(), ()])
            self.assertEqual(filling_by_lots(web, (tuple(range(web[0])),)), tuple(missing_ties(web)))

    def test_many_lots(self):
        for web in (ways_web(1), ways_web(2), ways_web(5), two_sided_web(12), ring_web(12)):
            every = tuple(sorted(partings(web)))
            for row in (every, every[:3], every[:1], ()):
                crossing = any(is_crossing(web, lot, other) for lot, other in combinations(row[:40], 2))
                self.assertIs(is_calm(web, row), not crossing)
            self.assertIs(is_greatest_calm(web, ()), every == ())


class FactsTest(unittest.TestCase):

    def test_webs_that_can_be_left(self):
        for web in cases():
            leaving = is_leaving(web)
            self.assertIs(least_fillings(web) == [()], leaving)
            every = tuple(sorted(partings(web)))
            self.assertIs(is_calm(web, every) and all(is_tied(web, lot) for lot in every), leaving)

    def test_parted_by_a_tied_lot(self):
        webs = [with_tie(beside(ring_web(4), ring_web(3)), 0, 4), beside(ring_web(4), path_web(3)), path_web(7),
                with_tie(with_tie(beside(path_web(4), path_web(3)), 0, 4), 3, 6), star_web(6)] + leaving_webs(7, 3, 93)
        webs += [beside(web, other) for web in (ring_web(4), path_web(3)) for other in all_webs(3)[-3:]]
        for web in webs + some_webs(7, 8, 94)[:4]:
            for lot in lots(web[0])[:29]:
                found = pieces(web, lot)
                if len(found) < 2 or not is_tied(web, lot):
                    continue
                parts = [inner(web, tuple(sorted(piece + lot))) for piece in found]
                self.assertEqual(fewest_count(web), sum(fewest_count(part) for part in parts))
                many = 1
                for part in parts:
                    many *= len(least_fillings(part))
                self.assertEqual(len(least_fillings(web)), many)


if __name__ == "__main__":
    unittest.main()

"""[28], [29], H1 to H6: apart lots, covers and papers."""

import random
import unittest

from leaveorder.bare_rounds import is_bare
from leaveorder.covers import (apart_along, apart_counts, apart_number, apart_paper, fewest_cover, heaviest_apart,
                               is_apart_paper, is_cover, is_weight_paper, most_apart, nth_apart, weight_paper)
from leaveorder.errors import InvalidRow, NotApart, NotLeaving
from leaveorder.leaving import is_leaving
from leaveorder.orders import nth_order, order_count
from leaveorder.webs import beside, inner, is_apart
from leaveorder.whole_lots import whole_lots
from tests import lot_oracle, oracle
from tests.at_hand import (BIG, ODD_VALUES, bare_web, block_web, deep, full_web, large_webs, leaving_webs, lots,
                           parted_web, path_web, ring_web, small_webs, some_webs, star_web, two_sided_web,
                           webs_of_twelve)


def cases():
    return small_webs()[::2] + some_webs(6, 10, 85) + leaving_webs(6, 10, 86) + [ring_web(6), bare_web(6), full_web(6)]


def apart_lots(web):
    return [lot for lot in lots(web[0]) if oracle.none_tied(web, lot)]


def covers_of(web):
    """All covers of a web of few whole lots."""
    wholes = lot_oracle.whole_lots(web)
    return [row for row in lots(len(wholes)) if {x for at in row for x in wholes[at]} == set(range(web[0]))]


def some_weights(web, many):
    chance = random.Random(repr(web))
    rows = [(0,) * web[0], (1,) * web[0], (1000000,) * web[0], (1000000, *(0,) * (web[0] - 1))]
    rows += [tuple(chance.choice((0, 1, 2, 3, 9, 1000000)) for _ in range(web[0])) for _ in range(many)]
    return rows + [tuple(chance.randrange(8) for _ in range(web[0])) for _ in range(many)]


def fits(web, weights, lot, counts):
    """By the words of the document, of a lot and counts of the right form."""
    wholes = lot_oracle.whole_lots(web)
    return (oracle.none_tied(web, lot) and sum(counts) == sum(weights[x] for x in lot)
            and all(sum(many for many, whole in zip(counts, wholes) if x in whole) >= weights[x] for x in range(web[0])))


class ApartTest(unittest.TestCase):

    def test_against_all_lots(self):
        for web in cases():
            found = apart_lots(web)
            most = len(found[-1])
            self.assertEqual(apart_counts(web), [len([1 for lot in found if len(lot) == k]) for k in range(most + 1)])
            self.assertEqual(most_apart(web), most)
            for at, lot in enumerate(found):
                self.assertEqual(nth_apart(web, at), lot)
                self.assertEqual(apart_number(web, lot), at)
            for number in (len(found), len(found) + 1, BIG):
                self.assertIsNone(nth_apart(web, number))
            for lot in [lot for lot in lots(web[0]) if lot not in found]:
                with self.assertRaises(NotApart) as caught:
                    apart_number(web, lot)
                self.assertEqual(caught.exception.tie, [tie for tie in web[1] if set(tie) <= set(lot)][0])

    def test_heaviest(self):
        for web in cases()[::2] + large_webs()[::6]:
            found = apart_lots(web)
            for weights in some_weights(web, 2):
                heaviest = max(sum(weights[x] for x in lot) for lot in found)
                self.assertEqual(heaviest_apart(web, weights), heaviest)
            self.assertEqual(heaviest_apart(web, (1,) * web[0]), most_apart(web))

    def test_edges(self):
        self.assertEqual([apart_counts(bare_web(1)), apart_counts(full_web(12))], [[1, 1], [1, 12]])
        self.assertEqual([sum(apart_counts(bare_web(12))), most_apart(bare_web(12))], [4096, 12])
        self.assertEqual([nth_apart(bare_web(12), number) for number in (0, 1, 12, 13, 4095, 4096)],
                         [(), (0,), (11,), (0, 1), tuple(range(12)), None])
        self.assertEqual(apart_counts(ring_web(12)), [1, 12, 54, 112, 105, 36, 2])
        self.assertEqual(heaviest_apart(star_web(12), (11, *[1] * 11)), 11)
        self.assertEqual(heaviest_apart(star_web(12), (12, *[1] * 11)), 12)
        self.assertEqual(heaviest_apart(bare_web(12), (1000000,) * 12), 12000000)

    def test_neighbours_left_out(self):
        for web in cases()[::2] + large_webs()[::9]:
            counts = apart_counts(web)
            for k in range(1, len(counts)):
                total = 0
                for x in range(web[0]):
                    left = tuple(y for y in range(web[0]) if y != x and not oracle.tied(web, x, y))
                    told = apart_counts(inner(web, left)) if left else [1]
                    total += told[k - 1] if k <= len(told) else 0
                self.assertEqual(counts[k] * k, total)

    def test_webs_beside_one_another(self):
        for web in some_webs(5, 5, 87) + [ring_web(5)]:
            for other in some_webs(6, 4, 88):
                one, two = apart_counts(web), apart_counts(other)
                product = [sum(one[i] * two[k - i] for i in range(len(one)) if 0 <= k - i < len(two))
                           for k in range(len(one) + len(two) - 1)]
                self.assertEqual(apart_counts(beside(web, other)), product)


class CoversTest(unittest.TestCase):

    def test_covers(self):
        for web in cases()[::2]:
            found = covers_of(web)
            wholes = lot_oracle.whole_lots(web)
            for row in lots(len(wholes)):
                self.assertIs(is_cover(web, row), row in found)
                if len(row) > 1:
                    self.assertIs(is_cover(web, row[::-1]), False)
            most = most_apart(web)
            self.assertTrue(all(len(row) >= most for row in found))
            if is_leaving(web):
                self.assertEqual(fewest_cover(web), min(len(row) for row in found))
                self.assertEqual(fewest_cover(web), most)

    def test_covers_of_any_value(self):
        path = path_web(4)
        self.assertEqual([is_cover(path, row) for row in ((0, 2), (0, 1, 2), (0, 1), (), [0, 2], (2, 0), (0, 2, 2),
                                                          (0, 3), (-1, 0, 2), (False, 2), (0, 2, None), (0, "2"),
                                                          (0, (2,)), (0, BIG), (0, deep(list)))],
                         [True, True, *[False] * 13])
        for value in ODD_VALUES:
            self.assertIs(is_cover(path, value), False, value)
            self.assertIs(is_apart_paper(path, value), False)
            self.assertIs(is_weight_paper(path, (0, 0, 0, 0), value), False)
        self.assertIs(is_cover(bare_web(1), (0,)), True)
        self.assertIs(is_cover(bare_web(1), ()), False)
        self.assertIs(is_cover(parted_web(12, 3), tuple(range(81))), True)
        self.assertIs(is_cover(parted_web(12, 3), tuple(range(82))), False)

    def test_papers(self):
        for web in cases()[::3]:
            found, covers = apart_lots(web), covers_of(web)
            for lot in found:
                for row in lots(min(6, len(lot_oracle.whole_lots(web)))):
                    self.assertIs(is_apart_paper(web, (lot, row)), len(lot) == len(row) and row in covers)
        path = path_web(4)
        for value in (((0, 2), (0, 2), ()), ((0, 2),), [(0, 2), (0, 2)], ([0, 2], (0, 2)), ((0, 2), [0, 2]),
                      ((2, 0), (0, 2)), ((0, 1), (0, 2)), ((0, 2), (0, 1)), ((0,), (0, 2)), ((0, 2), None), (None, (0, 2)),
                      ((0, 2), (2, 0)), ((0, 4), (0, 2)), ((), ())):
            self.assertIs(is_apart_paper(path, value), False, value)
        # A round of five has no paper: two places apart, three whole lots to cover.
        self.assertFalse([1 for lot in lots(5) for row in lots(5) if is_apart_paper(ring_web(5), (lot, row))])
        self.assertIs(is_apart_paper(ring_web(6), ((0, 2, 4), (0, 2, 5))), False)
        self.assertEqual(len([1 for row in lots(6) if is_apart_paper(ring_web(6), ((0, 2, 4), row))]), 2)

    def test_weight_papers(self):
        for web in cases()[::8]:
            many = len(lot_oracle.whole_lots(web))
            for weights in [(0,) * web[0], (1,) * web[0], tuple(x % 2 for x in range(web[0]))]:
                for lot in lots(web[0])[::2]:
                    for counts in [(0,) * many, (1,) * many, *[tuple(int(at in row) for at in range(many))
                                                               for row in lots(min(many, 5))]]:
                        self.assertIs(is_weight_paper(web, weights, (lot, counts)), fits(web, weights, lot, counts))
        path, weights = path_web(4), (2, 5, 4, 1)
        self.assertIs(is_weight_paper(path, weights, ((0, 2), (2, 3, 1))), True)
        self.assertIs(is_weight_paper(path, (0, 0, 0, 0), ((), (0, 0, 0))), True)
        self.assertIs(is_weight_paper(path, (0, 0, 0, 0), ((0, 3), (0, 0, 0))), True)
        for value in (((0, 2), (2, 3, 1), 0), [(0, 2), (2, 3, 1)], ([0, 2], (2, 3, 1)), ((0, 2), [2, 3, 1]),
                      ((0, 2), (2, 3)), ((0, 2), (2, 3, 1, 0)), ((0, 2), (2, 4, 0)), ((0, 2), (3, 2, 1)),
                      ((0, 2), (2, 3, 2)), ((0, 2), (7, -2, 1)), ((0, 2), (2, 3, True)), ((0, 2), (2, 3, None)),
                      ((1, 2), (2, 3, 4)), ((0, 2), (2, BIG, 1)), ((0, 2), (2, -BIG, 1)), ((0, 2), (2, (3,), 1)),
                      ((2, 0), (2, 3, 1)), ((0, 2), "231"), (None, None), ((0, 2), deep(tuple))):
            self.assertIs(is_weight_paper(path, weights, value), False, value)


class LeavingTest(unittest.TestCase):

    def test_papers_are_found(self):
        for web in [web for web in cases() + webs_of_twelve() if is_leaving(web)]:
            lot, cover = apart_paper(web)
            self.assertIs(is_apart_paper(web, (lot, cover)), True)
            self.assertIs(type(apart_paper(web)), tuple)
            self.assertEqual([len(lot), fewest_cover(web)], [most_apart(web)] * 2)
            wholes = whole_lots(web)
            self.assertTrue(all(len(set(wholes[at]) & set(lot)) == 1 for at in cover))
            for weights in some_weights(web, 3):
                told = weight_paper(web, weights)
                self.assertIs(type(told), tuple)
                self.assertIs(is_weight_paper(web, weights, told), True)
                self.assertTrue(fits(web, weights, *told))
                self.assertEqual(sum(told[1]), heaviest_apart(web, weights))

    def test_apart_along(self):
        for web in [web for web in cases() if is_leaving(web)]:
            for order in lot_oracle.orders(web)[::17]:
                taken = []
                for x in order:
                    taken += [x] if not any(oracle.tied(web, x, y) for y in taken) else []
                self.assertEqual(apart_along(web, order), tuple(sorted(taken)))
                self.assertEqual(len(taken), most_apart(web))
        for web in leaving_webs(12, 12, 89):
            for number in (0, order_count(web) // 2, order_count(web) - 1):
                told = apart_along(web, nth_order(web, number))
                self.assertTrue(is_apart(web, told) and len(told) == most_apart(web))
        for web, row in ((path_web(4), (1, 0, 2, 3)), (ring_web(4), (0, 1, 2, 3)), (full_web(3), (0, 1))):
            with self.assertRaises(InvalidRow):
                apart_along(web, row)

    def test_webs_that_cannot_be_left(self):
        for web in (ring_web(4), ring_web(12), two_sided_web(12), beside(block_web(6, 3), ring_web(5))):
            for function, more in ((apart_paper, ()), (weight_paper, ((0,) * web[0],)), (fewest_cover, ())):
                with self.assertRaises(NotLeaving) as caught:
                    function(web, *more)
                self.assertIs(is_bare(web, caught.exception.ring), True)

    def test_no_lot_weighs_more_than_counts_that_cover(self):
        for web in cases()[::5]:
            wholes = lot_oracle.whole_lots(web)
            for weights in some_weights(web, 1)[:5]:
                counts = [0] * len(wholes)
                for x in range(web[0]):
                    counts[[at for at, whole in enumerate(wholes) if x in whole][0]] += weights[x]
                self.assertLessEqual(heaviest_apart(web, weights), sum(counts))

    def test_edges(self):
        self.assertEqual([apart_paper(bare_web(1)), apart_paper(full_web(12))[1]], [((0,), (0,)), (0,)])
        self.assertEqual(apart_paper(bare_web(12)), (tuple(range(12)), tuple(range(12))))
        self.assertEqual(weight_paper(full_web(12), (0,) * 12)[1], (0,))
        self.assertEqual(weight_paper(full_web(12), (0,) * 11 + (1000000,)), ((11,), (1000000,)))
        self.assertEqual([fewest_cover(star_web(12)), fewest_cover(block_web(12, 4))], [11, 3])
        self.assertEqual([apart_along(bare_web(1), (0,)), apart_along(full_web(12), tuple(range(12)))], [(0,), (0,)])


if __name__ == "__main__":
    unittest.main()

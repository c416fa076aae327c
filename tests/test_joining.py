"""[39], [40], L1 to L5: webs put together, drawn together, and firm lots."""

import unittest
from itertools import combinations

from leaveorder.bare_rounds import bare_rings
from leaveorder.errors import InvalidCount, InvalidLot, InvalidPlace, NotTied, TooMany
from leaveorder.joining import drawn, firm_lots, glued, is_firm, joined_all, less_place, power, put_in, with_place
from leaveorder.leaving import is_leaving
from leaveorder.webs import beside, inner, is_tied, pieces, with_tie
from leaveorder.whole_lots import whole_lots
from leaveorder.widths import width
from tests import lot_oracle, oracle
from tests.at_hand import (BIG, all_webs, bare_web, block_web, full_web, large_webs, leaving_webs, lots, pairs,
                           parted_web, path_web, ring_web, some_webs, star_web, two_sided_web, webs_of_twelve)


def small():
    return [web for count in (1, 2, 3) for web in all_webs(count)] + all_webs(4)[::5]


def web_of(names, tied):
    """The web of these names, in their sequence, tied as the function tells."""
    pairs_told = [(x, y) for x, y in combinations(range(len(names)), 2) if tied(names[x], names[y])]
    return (len(names), tuple(pairs_told))


def glue(web, other, lot, other_lot):
    """By the words: the names are those of the web, and (place,) for the others of the other one."""
    same = dict(zip(other_lot, lot))
    names = list(range(web[0])) + [(y,) for y in range(other[0]) if y not in same]
    ties = {frozenset(tie) for tie in web[1]} | {frozenset(same.get(y, (y,)) for y in tie) for tie in other[1]}
    return web_of(names, lambda x, y: frozenset((x, y)) in ties)


class GluedTest(unittest.TestCase):

    def test_against_the_words(self):
        for web in small():
            for other in small()[::3]:
                for lot in lots(web[0]):
                    for other_lot in lots(other[0])[::2]:
                        self.assert_glued(web, other, lot, other_lot)

    def assert_glued(self, web, other, lot, other_lot):
        if not oracle.all_tied(web, lot):
            with self.assertRaises(NotTied) as caught:
                glued(web, other, lot, other_lot)
            untied = [(x, y) for x, y in combinations(lot, 2) if not oracle.tied(web, x, y)]
            self.assertEqual(caught.exception.tie, untied[0])
        elif len(lot) != len(other_lot) or not oracle.all_tied(other, other_lot):
            with self.assertRaises(InvalidLot):
                glued(web, other, lot, other_lot)
        else:
            told = glued(web, other, lot, other_lot)
            self.assertEqual(told, glue(web, other, lot, other_lot))
            self.assertIs(is_leaving(told), is_leaving(web) and is_leaving(other))
            self.assert_wholes(web, other, lot, other_lot, told)

    def assert_wholes(self, web, other, lot, other_lot, told):
        number = dict(zip(other_lot, lot))
        number.update({y: web[0] + at for at, y in enumerate(y for y in range(other[0]) if y not in other_lot)})
        found = set(whole_lots(web)) | {tuple(sorted(number[y] for y in whole)) for whole in whole_lots(other)}
        self.assertTrue(set(whole_lots(told)) <= found)

    def test_edges(self):
        self.assertEqual(glued(ring_web(4), path_web(3), (), ()), beside(ring_web(4), path_web(3)))
        self.assertEqual(glued(full_web(12), full_web(12), tuple(range(12)), tuple(range(12))), full_web(12))
        self.assertEqual(glued(full_web(6), full_web(7), (0,), (3,))[0], 12)
        self.assertEqual(glued(bare_web(1), full_web(12), (0,), (5,)), full_web(12))
        for lot in ((), (0,)):
            with self.assertRaises(TooMany) as caught:
                glued(full_web(7), full_web(7), lot, lot)
            self.assertEqual(caught.exception.count, 12)


class PlacesTest(unittest.TestCase):

    def test_with_place(self):
        for web in small() + some_webs(6, 6, 150):
            for lot in lots(web[0]):
                told = with_place(web, lot)
                self.assertEqual(told, (web[0] + 1, tuple(sorted(web[1] + tuple((x, web[0]) for x in lot)))))
                sides = pieces(web, lot)
                beside_it = [tuple(x for x in lot if any(oracle.tied(web, x, y) for y in side)) for side in sides]
                right = is_leaving(web) and all(oracle.all_tied(web, held) for held in beside_it)
                self.assertIs(is_leaving(told), right)
        self.assertEqual(with_place(full_web(11), tuple(range(11))), full_web(12))
        for lot in ((), (0,), tuple(range(12))):
            with self.assertRaises(TooMany) as caught:
                with_place(bare_web(12), lot)
            self.assertEqual(caught.exception.count, 12)

    def test_less_place(self):
        for web in small() + some_webs(7, 6, 151) + webs_of_twelve()[::4]:
            for place in range(web[0]):
                names = [x for x in range(web[0]) if x != place]
                if not names:
                    with self.assertRaises(InvalidPlace):
                        less_place(web, place)
                    continue
                told = less_place(web, place)
                self.assertEqual(told, web_of(names, lambda x, y: oracle.tied(web, x, y)))
                if is_leaving(web):
                    self.assertIs(is_leaving(told), True)

    def test_put_in(self):
        for web in small():
            for other in small()[::2]:
                for place in range(web[0]):
                    names = [x for x in range(web[0]) if x != place] + [(y,) for y in range(other[0])]
                    told = put_in(web, place, other)
                    self.assertEqual(told, web_of(names, lambda x, y: self.tied_in(web, place, other, x, y)))
                    right = is_leaving(web) and is_leaving(other)
                    near = oracle.near(web, place)
                    right = right and (len(other[1]) == len(pairs(other[0])) or oracle.all_tied(web, near))
                    self.assertIs(is_leaving(told), right)
        self.assertEqual(put_in(bare_web(1), 0, ring_web(12)), ring_web(12))
        self.assertEqual(put_in(ring_web(12), 11, bare_web(1)), ring_web(12))
        self.assertEqual(put_in(bare_web(8), 3, full_web(5))[0], 12)
        with self.assertRaises(TooMany) as caught:
            put_in(bare_web(8), 3, full_web(6))
        self.assertEqual(caught.exception.count, 12)

    def tied_in(self, web, place, other, x, y):
        if type(x) is int and type(y) is int:
            return oracle.tied(web, x, y)
        if type(x) is int:
            return oracle.tied(web, x, place)
        return oracle.tied(other, x[0], y[0])

    def test_joined_all(self):
        for web in small():
            for other in small()[::2]:
                told = joined_all(web, other)
                every = [(x, y) for x in range(web[0]) for y in range(web[0], web[0] + other[0])]
                self.assertEqual(told, (web[0] + other[0], tuple(sorted({*beside(web, other)[1], *every}))))
                full = any(len(one[1]) == len(pairs(one[0])) for one in (web, other))
                self.assertIs(is_leaving(told), is_leaving(web) and is_leaving(other) and full)
        self.assertEqual([joined_all(full_web(6), full_web(6)), joined_all(bare_web(6), bare_web(6))],
                         [full_web(12), two_sided_web(12)])
        with self.assertRaises(TooMany) as caught:
            joined_all(bare_web(6), bare_web(7))
        self.assertEqual(caught.exception.count, 12)


class DrawnTest(unittest.TestCase):

    def test_drawn(self):
        for web in small() + some_webs(6, 10, 152) + leaving_webs(8, 8, 153) + [ring_web(12), full_web(12)]:
            for low, high in web[1]:
                names = [x for x in range(web[0]) if x != high]
                ends = lambda x: (low, high) if x == low else (x,)
                told = web_of(names, lambda x, y: any(oracle.tied(web, a, b) for a in ends(x) for b in ends(y)))
                self.assertEqual(drawn(web, (low, high)), told)
                if is_leaving(web):
                    self.assertIs(is_leaving(told), True)
        self.assertEqual([drawn(path_web(2), (0, 1)), drawn(ring_web(12), (0, 11))], [bare_web(1), ring_web(11)])

    def test_power(self):
        for web in small() + some_webs(6, 10, 154) + leaving_webs(9, 8, 155) + [path_web(12), ring_web(12)]:
            far = {(x, y): 0 if x == y else 99 for x in range(web[0]) for y in range(web[0])}
            far.update({pair: 1 for x, y in web[1] for pair in ((x, y), (y, x))})
            for k in range(web[0]):
                for pair in far:
                    far[pair] = min(far[pair], far[(pair[0], k)] + far[(k, pair[1])])
            leaving = []
            for number in range(1, 12):
                told = power(web, number)
                self.assertEqual(told, (web[0], tuple(pair for pair in pairs(web[0]) if far[pair] <= number)))
                leaving.append(is_leaving(told))
            self.assertEqual(power(web, 1), web)
            self.assertTrue(all(leaving[at + 2] for at in range(9) if leaving[at]))
            if is_leaving(web):
                self.assertTrue(all(leaving[::2]))
        self.assertEqual([power(path_web(12), 11), power(bare_web(12), 11)], [full_web(12), bare_web(12)])
        for number in (0, 12, -1, True, None, "1", (1,), BIG, -BIG):
            with self.assertRaises(InvalidCount):
                power(path_web(3), number)


class FirmTest(unittest.TestCase):

    def plain(self, web, lot):
        """By the words: no tied lot of the inner web leaves two pieces or more."""
        if not lot:
            return False
        told = inner(web, lot)
        return not any(oracle.all_tied(told, held) and len(oracle.pieces(told, held)) > 1 for held in lots(told[0]))

    def test_against_the_words(self):
        for web in small() + all_webs(5)[::70] + some_webs(6, 8, 156) + leaving_webs(6, 4, 157) + [ring_web(6)]:
            firm = [lot for lot in lots(web[0]) if self.plain(web, lot)]
            for lot in lots(web[0]):
                self.assertIs(is_firm(web, lot), lot in firm, (web, lot))
            greatest = [lot for lot in firm if not any(set(lot) < set(other) for other in firm)]
            self.assertEqual(firm_lots(web), sorted(greatest))
            self.assert_facts(web, greatest)

    def assert_facts(self, web, greatest):
        self.assertIs(is_leaving(web), all(is_tied(web, lot) for lot in greatest))
        if is_leaving(web):
            self.assertEqual(sorted(greatest), lot_oracle.whole_lots(web))
        rings = bare_rings(web) if web[0] < 11 else []
        for lot in lot_oracle.whole_lots(web) + rings + list(web[1]):
            self.assertTrue(any(set(lot) <= set(other) for other in greatest))
        self.assertEqual(width(web), max(width(inner(web, lot)) for lot in greatest))

    def test_larger_webs(self):
        webs = [web for web in large_webs() if web[0] > 7] + webs_of_twelve()[::2]
        webs += [with_tie(beside(ring_web(5), ring_web(6)), 0, 5), glued(ring_web(6), ring_web(8), (0, 1), (3, 4))]
        for web in webs:
            told = firm_lots(web)
            self.assertEqual(told, sorted(set(told)))
            self.assertTrue(all(is_firm(web, lot) for lot in told))
            self.assert_facts(web, told)

    def test_edges(self):
        self.assertEqual([firm_lots(bare_web(1)), firm_lots(full_web(12))], [[(0,)], [tuple(range(12))]])
        self.assertEqual(firm_lots(bare_web(12)), [(x,) for x in range(12)])
        self.assertEqual([firm_lots(ring_web(12)), firm_lots(block_web(6, 3))], [[tuple(range(12))], [(0, 1, 2), (3, 4, 5)]])
        self.assertEqual([firm_lots(star_web(4)), firm_lots(parted_web(6, 3))], [[(0, 1), (0, 2), (0, 3)], [tuple(range(6))]])
        self.assertEqual([is_firm(bare_web(2), (0, 1)), is_firm(bare_web(2), (0,)), is_firm(bare_web(2), ())],
                         [False, True, False])
        self.assertEqual(firm_lots(glued(ring_web(4), ring_web(4), (0, 1), (0, 1))), [(0, 1, 2, 3), (0, 1, 4, 5)])


if __name__ == "__main__":
    unittest.main()

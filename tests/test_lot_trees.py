"""[18], [19], [20], D1 to D6: trees of whole lots."""

import unittest
from itertools import combinations

from leaveorder.bare_rounds import is_bare
from leaveorder.errors import InvalidTree, NotLeaving, NotTree, Refused, TooMany
from leaveorder.leaving import is_leaving
from leaveorder.lot_trees import (branches, first_tree, fixed_branches, is_lot_tree, is_tree_row, meets, nth_tree,
                                  split_place, tree_count, tree_exchanged, tree_exchanges, tree_number, tree_row,
                                  tree_sum, trees, way_meets)
from leaveorder.partings import full_pieces, part_counts, partings_of
from leaveorder.webs import beside, is_tied, pieces
from leaveorder.whole_lots import whole_lots
from tests import lot_oracle
from tests.at_hand import (BIG, ODD_VALUES, all_webs, bare_web, block_web, deep, full_web, leaving_webs, pairs,
                           parted_web, path_web, ring_web, some_webs, star_web, two_sided_web, webs_of_twelve)

TWIG = (5, ((0, 1), (0, 2), (0, 3), (3, 4)))


def few_lots(web):
    return len(lot_oracle.whole_lots(web)) <= 6


def asked_webs():
    """Webs with at most six whole lots, some that can be left and some that can't."""
    webs = [web for count in (1, 2, 3, 4) for web in all_webs(count)] + all_webs(5)[::23]
    webs += some_webs(6, 10, 71) + leaving_webs(6, 14, 72) + leaving_webs(8, 8, 73)
    webs += [ring_web(5), ring_web(6), bare_web(6), star_web(6), block_web(9, 2), path_web(7), full_web(12), TWIG,
             beside(star_web(4), path_web(3)), beside(ring_web(4), bare_web(2)), block_web(12, 3)]
    return [web for web in webs if few_lots(web)]


def large_leaving_webs():
    return [web for web in webs_of_twelve() + leaving_webs(11, 12, 74) + leaving_webs(9, 8, 75) if is_leaving(web)]


class TreesTest(unittest.TestCase):

    def test_all_joining_trees(self):
        for web in asked_webs():
            found = lot_oracle.lot_trees(web)
            for tree in lot_oracle.joining_trees(len(whole_lots(web)))[::3]:
                split = lot_oracle.split(web, tree)
                self.assertIs(is_lot_tree(web, tree), tree in found, (web, tree))
                self.assertEqual(split_place(web, tree), split)
                self.assertEqual(meets(web, tree), lot_oracle.meets(web, tree))
                self.assertEqual(tree_sum(web, tree), sum(len(meet) for meet in lot_oracle.meets(web, tree)))
                if split is not None:
                    self.assert_no_tree(split, tree_exchanges, web, tree)
                    self.assert_no_tree(split, tree_number, web, tree)

    def assert_no_tree(self, place, function, *arguments):
        with self.assertRaises(NotTree) as caught:
            function(*arguments)
        self.assertEqual(caught.exception.place, place)

    def assert_bare_round(self, function, web, *arguments):
        with self.assertRaises(NotLeaving, msg=(function, web)) as caught:
            function(web, *arguments)
        self.assertTrue(is_bare(web, caught.exception.ring))

    def test_lists_and_numbers(self):
        for web in asked_webs():
            found = lot_oracle.lot_trees(web)
            if not found:
                for function in (first_tree, tree_count, trees, branches, fixed_branches):
                    self.assert_bare_round(function, web)
                for number in (0, 1, BIG):
                    self.assert_bare_round(nth_tree, web, number)
                continue
            self.assertEqual([first_tree(web), tree_count(web)], [found[0], len(found)])
            self.assertEqual(trees(web), found)
            for number in range(0, len(found), 1 + len(found) // 40):
                self.assertEqual(nth_tree(web, number), found[number])
                self.assertEqual(tree_number(web, found[number]), number)
            self.assertEqual([nth_tree(web, number) for number in (len(found), len(found) + 1, BIG)], [None] * 3)
            self.assertEqual(nth_tree(web, len(found) - 1), found[-1])
            every = pairs(len(whole_lots(web)))
            self.assertEqual(branches(web), [branch for branch in every if any(branch in tree for tree in found)])
            self.assertEqual(fixed_branches(web), [branch for branch in every if all(branch in tree for tree in found)])

    def test_edges(self):
        for web in (bare_web(1), full_web(12)):
            self.assertEqual([first_tree(web), tree_count(web), trees(web), nth_tree(web, 0), nth_tree(web, 1)],
                             [(), 1, [()], (), None])
            self.assertEqual([meets(web, ()), tree_sum(web, ()), split_place(web, ()), tree_number(web, ())],
                             [[], 0, None, 0])
            self.assertEqual([branches(web), fixed_branches(web), tree_exchanges(web, ())], [[], [], []])
            self.assertEqual([tree_row(web, (), ()), is_lot_tree(web, ()), is_tree_row(web, (), (), [])],
                             [[], True, True])
        self.assertEqual(way_meets(full_web(12), (), 3, 11), [])
        self.assertEqual(way_meets(bare_web(2), ((0, 1),), 1, 0), [()])
        self.assertEqual([tree_count(bare_web(12)), tree_count(star_web(12))], [12 ** 10, 11 ** 9])
        self.assertEqual([tree_count(path_web(12)), branches(path_web(4))], [1, [(0, 1), (1, 2)]])
        self.assertEqual(first_tree(bare_web(12)), tuple((0, place) for place in range(1, 12)))
        self.assertEqual(nth_tree(bare_web(12), 12 ** 10 - 1), tuple((place, 11) for place in range(11)))
        self.assertEqual(tree_number(bare_web(12), tuple((place, 11) for place in range(11))), 12 ** 10 - 1)
        self.assertEqual(nth_tree(bare_web(12), 12 ** 10), None)

    def test_more_than_six_whole_lots(self):
        for web in (bare_web(7), bare_web(12), path_web(8), block_web(12, 1), star_web(8)):
            with self.assertRaises(TooMany) as caught:
                trees(web)
            self.assertEqual(caught.exception.count, 6)
        for web in (bare_web(6), star_web(7), block_web(12, 2), path_web(7)):
            self.assertEqual(len(trees(web)), tree_count(web))
        for web in (ring_web(12), two_sided_web(12), parted_web(12, 3), beside(ring_web(4), bare_web(8))):
            self.assert_bare_round(trees, web)

    def test_large_webs_by_number(self):
        for web in large_leaving_webs():
            count = tree_count(web)
            told = sorted({number for number in (0, 1, count // 3, count // 2, count - 2, count - 1)
                           if 0 <= number < count})
            rows = [nth_tree(web, number) for number in told]
            self.assertEqual(rows, sorted(rows))
            self.assertEqual(len(set(rows)), len(rows))
            self.assertEqual(rows[0], first_tree(web))
            for number, tree in zip(told, rows):
                self.assertIs(is_lot_tree(web, tree), True)
                self.assertEqual(lot_oracle.split(web, tree), None)
                self.assertEqual(tree_number(web, tree), number)
            self.assertIs(nth_tree(web, count), None)
            if few_lots(web):
                self.assertEqual(len(trees(web)), count)

    def test_is_lot_tree_of_any_value(self):
        tree = ((0, 1), (0, 2), (2, 3))
        self.assertIs(is_lot_tree(TWIG, tree), True)
        wrong = [
            list(tree), tree[:2], (*tree, (2, 3)), tree[::-1], ((0, 1), (0, 2), (3, 2)), ((0, 1), (0, 2), (2, 4)),
            ((0, 1), (0, 2), [2, 3]), ((0, 1), (0, 2), (2, 3.5)), ((0, True), (0, 2), (2, 3)), ((0, 1), (1, 2), (2, BIG)),
            ((0, 1), (0, 2), (1, 2)), ((0, 1), (0, 1), (2, 3)), ((0, 1), (0, 2), (0, 3)), ((0, 1), (0, 2), (1, 3)),
            ((0, 1), (0, 2), None), ((0, 1), (0, 2), deep(tuple)), (), "abacce", (tree,), TWIG,
        ]
        for value in wrong + ODD_VALUES:
            self.assertIs(is_lot_tree(TWIG, value), False, value)
        for value in ODD_VALUES + [tree, ((0, 0),), ((0, 1),)]:
            self.assertIs(is_lot_tree(bare_web(1), value), False, value)

    def test_webs_that_cannot_be_left_have_none(self):
        for web in (ring_web(12), two_sided_web(12), parted_web(12, 3), ring_web(4)):
            many = len(whole_lots(web))
            for tree in (tuple((at, at + 1) for at in range(many - 1)), tuple((0, at) for at in range(1, many))):
                self.assertIs(is_lot_tree(web, tree), False)
                place = lot_oracle.split(web, tree)
                self.assertEqual(split_place(web, tree), place)
                self.assert_no_tree(place, tree_number, web, tree)
                self.assert_no_tree(place, tree_exchanges, web, tree)
                self.assert_no_tree(place, tree_exchanged, web, tree, (0, 1), (0, 1))
                self.assert_no_tree(place, way_meets, web, tree, 0, 3)
                self.assert_no_tree(place, tree_row, web, tree, tree)
                self.assertIs(is_tree_row(web, tree, tree, []), False)
                self.assertEqual(meets(web, tree), lot_oracle.meets(web, tree))
            with self.assertRaises(InvalidTree):
                meets(web, ())


class WaysTest(unittest.TestCase):

    def expected(self, web, tree, x, y):
        """The meets on the shortest of the ways between whole lots with the one and with the other place."""
        wholes = whole_lots(web)
        ways = [lot_oracle.tree_ways(tree, i, j)[0] for i, lot in enumerate(wholes) if x in lot
                for j, other in enumerate(wholes) if y in other]
        way = min(ways, key=len)
        return [tuple(z for z in wholes[i] if z in wholes[j]) for i, j in zip(way, way[1:])]

    def test_small_webs(self):
        for web in asked_webs():
            for tree in lot_oracle.lot_trees(web)[:60:9] if is_leaving(web) else []:
                for x, y in pairs(web[0]):
                    self.assertEqual(way_meets(web, tree, x, y), self.expected(web, tree, x, y), (web, tree, x, y))
                    self.assertEqual(way_meets(web, tree, y, x), self.expected(web, tree, y, x), (web, tree, x, y))

    def test_large_webs(self):
        for web in large_leaving_webs()[::3]:
            count = tree_count(web)
            for tree in (first_tree(web), nth_tree(web, count // 2), nth_tree(web, count - 1)):
                for x, y in pairs(web[0])[::5]:
                    self.assertEqual(way_meets(web, tree, y, x), self.expected(web, tree, y, x))

    def test_edges(self):
        tree = tuple((at, at + 1) for at in range(10))
        self.assertEqual(way_meets(path_web(12), tree, 0, 11), [(place,) for place in range(1, 11)])
        self.assertEqual(way_meets(path_web(12), tree, 11, 0), [(place,) for place in range(10, 0, -1)])
        self.assertEqual([way_meets(path_web(12), tree, 4, 5), way_meets(path_web(12), tree, 6, 4)], [[], [(5,)]])
        web = beside(star_web(4), path_web(3))
        self.assertEqual(way_meets(web, ((0, 1), (0, 2), (2, 3), (3, 4)), 1, 6), [(0,), (), (5,)])
        with self.assertRaises(NotTree) as caught:
            way_meets(TWIG, ((0, 1), (0, 2), (1, 3)), 1, 2)
        self.assertEqual(caught.exception.place, 3)


class ExchangesTest(unittest.TestCase):

    def test_all_exchanges(self):
        for web in asked_webs():
            found = lot_oracle.lot_trees(web)
            for tree in found[:200:17]:
                told = lot_oracle.exchanges(web, tree, found)
                self.assertEqual(tree_exchanges(web, tree), told, (web, tree))
                every = pairs(len(whole_lots(web)))
                for branch in every:
                    for other in every:
                        if (branch, other) in told:
                            made = tree_exchanged(web, tree, branch, other)
                            self.assertEqual(made, lot_oracle.exchange(tree, branch, other))
                        else:
                            with self.assertRaises(Refused):
                                tree_exchanged(web, tree, branch, other)

    def test_rows_between_two_trees(self):
        for web in asked_webs():
            found = lot_oracle.lot_trees(web)
            for tree in found[:100:13]:
                for other in found[::-1][:100:11]:
                    self.assert_row(web, tree, other)

    def assert_row(self, web, tree, other):
        row = tree_row(web, tree, other)
        self.assertIs(type(row), list)
        self.assertEqual(len(row), len([branch for branch in tree if branch not in other]))
        at = tree
        for branch, coming in row:
            self.assertIn(branch, at)
            self.assertNotIn(coming, at)
            at = lot_oracle.exchange(at, branch, coming)
            self.assertEqual(lot_oracle.split(web, at), None)
            self.assertTrue(lot_oracle.is_joined(range(len(at) + 1), at))
        self.assertEqual(at, other)
        self.assertIs(is_tree_row(web, tree, other, row), True)
        if row:
            self.assertIs(is_tree_row(web, tree, other, row[:-1]), False)
            self.assertIs(is_tree_row(web, other, tree, row), False)
            back = [(coming, branch) for branch, coming in row[::-1]]
            self.assertIs(is_tree_row(web, other, tree, back), True)
            self.assertIs(is_tree_row(web, tree, tree, row + back), True)

    def test_large_webs(self):
        for web in large_leaving_webs()[::2]:
            count = tree_count(web)
            ends = [first_tree(web), nth_tree(web, count // 2), nth_tree(web, count - 1)]
            for tree in ends:
                for other in ends:
                    self.assert_row(web, tree, other)
                told = tree_exchanges(web, tree)
                self.assertEqual(told, sorted(told))
                for branch, other in told[::9]:
                    self.assertIs(is_lot_tree(web, tree_exchanged(web, tree, branch, other)), True)

    def test_rows_of_any_value(self):
        tree, other = ((0, 1), (0, 2), (2, 3)), ((0, 2), (1, 2), (2, 3))
        step = ((0, 1), (1, 2))
        back = step[::-1]
        self.assertIs(is_tree_row(TWIG, tree, other, [step]), True)
        self.assertIs(is_tree_row(TWIG, tree, other, [step, back] * 200 + [step]), True)
        self.assertIs(is_tree_row(TWIG, tree, tree, [step, back]), True)
        wrong = [
            (step,), [], [list(step)], [((0, 1), [1, 2])], [((0, 1), (1, 2), (1, 2))], [((0, 1),)], [(0, 1)], [(1, 2), (0, 1)],
            [((0, 1), (2, 1))], [((0, 1), (1, True))], [((False, 1), (1, 2))], [((0, 1), (1, 4))], [((0, 1), (1, BIG))],
            [((0, 1), (0, 1))], [((0, 2), (1, 2))], [((2, 3), (1, 3))], [step, step], [step, back], [back], [None], None,
            [step, None], [step, []], [((0, 1), (-1, 2))], [((0, 1), (1, 2.5))], "ab", [deep(tuple)], [deep(list)],
            [(deep(tuple), (1, 2))], [((0, 1), (0, 3))], [((0, 1), (1, 3))], [((1, 2), (0, 1)), step, step],
        ]
        for value in wrong + ODD_VALUES:
            self.assertIs(is_tree_row(TWIG, tree, other, value), False, value)
        for value in ODD_VALUES + [(), {}]:
            self.assertIs(is_tree_row(TWIG, tree, tree, value), value == [], value)

    def test_rows_by_way_of_a_tree_that_is_none(self):
        # The branch (1, 3) has another meet than (2, 3): what comes between is a joining tree, but no lot tree.
        tree = ((0, 1), (0, 2), (2, 3))
        self.assertIs(is_tree_row(TWIG, tree, tree, [((2, 3), (1, 3)), ((1, 3), (2, 3))]), False)
        # Of one meet, but what comes between joins not all whole lots.
        web = star_web(6)
        tree = ((0, 1), (0, 2), (0, 3), (0, 4))
        self.assertIs(is_tree_row(web, tree, tree, [((0, 4), (1, 2)), ((1, 2), (0, 4))]), False)
        self.assertIs(is_tree_row(web, tree, tree, [((0, 4), (1, 4)), ((1, 4), (0, 4))]), True)

    def test_is_tree_row_of_trees_that_are_none(self):
        tree, none = ((0, 1), (0, 2), (2, 3)), ((0, 1), (0, 2), (0, 3))
        for ends in ((none, none), (tree, none), (none, tree)):
            for value in ([], [((0, 3), (2, 3))], [((2, 3), (0, 3))], None):
                self.assertIs(is_tree_row(TWIG, *ends, value), False)

    def test_refused(self):
        tree = ((0, 1), (0, 2), (2, 3))
        for branch, other in (((0, 1), (0, 1)), ((0, 1), (0, 2)), ((1, 2), (0, 1)), ((1, 2), (1, 2)), ((1, 2), (0, 3)),
                              ((2, 3), (1, 3)), ((0, 2), (2, 3)), ((2, 3), (1, 2)), ((0, 1), (0, 3))):
            with self.assertRaises(Refused, msg=(branch, other)):
                tree_exchanged(TWIG, tree, branch, other)
        self.assertEqual(tree_exchanged(TWIG, tree, (0, 1), (1, 2)), ((0, 2), (1, 2), (2, 3)))


class FactsTest(unittest.TestCase):

    def test_the_greatest_sums(self):
        for web in asked_webs():
            bound = sum(len(lot) for lot in whole_lots(web)) - web[0]
            found = lot_oracle.lot_trees(web)
            self.assertIs(is_leaving(web), bool(found))
            for tree in lot_oracle.joining_trees(len(whole_lots(web)))[::11] + found[::7]:
                total = tree_sum(web, tree)
                self.assertLessEqual(total, bound)
                self.assertIs(is_lot_tree(web, tree), total == bound, (web, tree))

    def test_meets_are_the_least_parting_lots(self):
        for web in [web for web in asked_webs() if is_leaving(web)] + large_leaving_webs():
            told = sorted(lot for lot, number in part_counts(web) for _ in range(number))
            for tree in (first_tree(web), nth_tree(web, tree_count(web) - 1)):
                self.assertEqual(sorted(meets(web, tree)), told)

    def test_the_number_of_trees(self):
        for web in [web for web in asked_webs() if is_leaving(web)] + large_leaving_webs():
            count = 1
            for lot, _ in part_counts(web):
                sides = [set(side) for side in full_pieces(web, lot)]
                holding = [whole for whole in whole_lots(web) if set(lot) <= set(whole)]
                shares = [len([whole for whole in holding if side & set(whole)]) for side in sides]
                for share in shares:
                    count *= share
                count *= sum(shares) ** (len(shares) - 2)
            self.assertEqual(tree_count(web), count, web)

    def test_which_branches(self):
        for web in large_leaving_webs()[::2]:
            wholes = whole_lots(web)
            told = []
            for i, j in pairs(len(wholes)):
                meet = set(wholes[i]) & set(wholes[j])
                sides = [[set(side) for side in pieces(web, tuple(sorted(meet))) if set(side) & (set(lot) - meet)]
                         for lot in (wholes[i], wholes[j])]
                if sides[0] != sides[1]:
                    told.append((i, j))
            self.assertEqual(branches(web), told)
            common = meets_of(wholes, told)
            self.assertEqual(fixed_branches(web), [branch for branch, meet in zip(told, common)
                                                   if common.count(meet) == 1])

    def test_exchanges_have_one_meet(self):
        for web in [web for web in asked_webs() if is_leaving(web)][::2]:
            wholes = whole_lots(web)
            for tree in lot_oracle.lot_trees(web)[:50:10]:
                told = tree_exchanges(web, tree)
                for branch in tree:
                    for other in pairs(len(wholes)):
                        made = lot_oracle.exchange(tree, branch, other)
                        joining = other not in tree and lot_oracle.is_joined(range(len(wholes)), made)
                        one, two = meets_of(wholes, [branch, other])
                        self.assertEqual((branch, other) in told, joining and one == two)

    def test_ways(self):
        for web in [web for web in asked_webs() if is_leaving(web)] + large_leaving_webs()[::3]:
            tree = nth_tree(web, tree_count(web) // 2)
            wholes = whole_lots(web)
            for i, j in pairs(len(wholes)):
                way = lot_oracle.tree_ways(tree, i, j)[0]
                common = set(wholes[i]) & set(wholes[j])
                for meet in meets_of(wholes, list(zip(way, way[1:]))):
                    self.assertLessEqual(common, set(meet))
            for x, y in combinations(range(web[0]), 2):
                if not is_tied(web, (x, y)):
                    told = way_meets(web, tree, x, y)
                    least = {lot for lot in told if not any(set(other) < set(lot) for other in told)}
                    self.assertEqual(set(partings_of(web, x, y)), least)


def meets_of(wholes, found):
    return [tuple(x for x in wholes[i] if x in wholes[j]) for i, j in found]


if __name__ == "__main__":
    unittest.main()

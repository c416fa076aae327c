"""[37], [38], K1 to K4: tables over whole lots, whole tables, denials."""

import random
import unittest
from fractions import Fraction
from itertools import combinations, product
from math import gcd

from leaveorder.bare_rounds import is_bare
from leaveorder.errors import InvalidRow, InvalidTables, NotAgreeing, NotLeaving, TooMany
from leaveorder.leaving import is_leaving
from leaveorder.lot_trees import nth_tree, tree_count
from leaveorder.tables import (clash, family_of, heaviest_row, is_denial, is_whole_table, sums_within, torn_denial,
                               torn_family, weight_at, whole_table)
from leaveorder.webs import beside, mirrored, pieces
from leaveorder.whole_lots import whole_lots
from tests import lot_oracle
from tests.at_hand import (BIG, ODD_VALUES, all_webs, bare_web, block_web, deep, full_web, leaving_webs, lots,
                           parted_web, path_web, ring_web, small_webs, some_webs, star_web, tied_twice, two_sided_web,
                           webs_of_twelve)


def rows(count):
    return list(product((0, 1), repeat=count))


def at(lot, row, part):
    """The values of the part, of a row of values of the lot."""
    return tuple(row[lot.index(x)] for x in part)


def sums(table, lot, part):
    told = {row: 0 for row in rows(len(part))}
    for row, entry in zip(rows(len(lot)), table):
        told[at(lot, row, part)] += entry
    return [told[row] for row in rows(len(part))]


def drawn_family(web, seed, most=9):
    """A family that agrees: the sums of a drawn table, with some entries 0."""
    chance = random.Random(repr((web, seed)))
    every = tuple(range(web[0]))
    table = [chance.choice((0, chance.randrange(most + 1))) for _ in rows(web[0])]
    table[chance.randrange(len(table))] = most
    return tuple(tuple(sums(table, every, lot)) for lot in lot_oracle.whole_lots(web))


def mixed_family(web, seed):
    """A family of unlike tables that may agree or not."""
    chance = random.Random(repr((web, seed)))
    return tuple(tuple([1] + [chance.randrange(2) for _ in rows(len(lot))[1:]]) for lot in lot_oracle.whole_lots(web))


def first_clash(web, tables):
    wholes = lot_oracle.whole_lots(web)
    for i, j in combinations(range(len(wholes)), 2):
        common = tuple(x for x in wholes[i] if x in wholes[j])
        if sums(tables[i], wholes[i], common) != sums(tables[j], wholes[j], common):
            return (i, j)
    return None


def plain_entries(web, tables, tree):
    """The entries of the whole table by the lot tree."""
    wholes, every = lot_oracle.whole_lots(web), tuple(range(web[0]))
    told = []
    for row in rows(web[0]):
        top, bottom = 1, 1
        for table, lot in zip(tables, wholes):
            top *= table[rows(len(lot)).index(at(every, row, lot))]
        for i, j in tree:
            meet = tuple(x for x in wholes[i] if x in wholes[j])
            bottom *= sums(tables[i], wholes[i], meet)[rows(len(meet)).index(at(every, row, meet))]
        told.append(Fraction(top, bottom) if bottom else Fraction(0))
    return told


def plain(entries):
    return tuple((entry.numerator, entry.denominator) for entry in entries)


def cases():
    webs = [web for count in (1, 2, 3) for web in all_webs(count)] + all_webs(4)[::3] + all_webs(5)[::70]
    return webs + leaving_webs(5, 5, 130) + leaving_webs(6, 3, 131) + [ring_web(4), ring_web(5), bare_web(4)]


class FamiliesTest(unittest.TestCase):

    def test_family_of(self):
        for web in cases():
            chance = random.Random(repr(web))
            every = tuple(range(web[0]))
            for most in (1, 1000):
                table = tuple([chance.randrange(most + 1) for _ in rows(web[0])[1:]] + [most])
                told = family_of(web, table)
                self.assertEqual(told, tuple(tuple(sums(table, every, lot)) for lot in lot_oracle.whole_lots(web)))
                self.assertIsNone(clash(web, told))
        self.assertEqual(family_of(bare_web(8), (1000,) * 256), ((128000, 128000),) * 8)
        self.assertEqual(family_of(full_web(8), tuple(range(256))), (tuple(range(256)),))

    def test_tables_of_any_value(self):
        right = (1, 0, 2, 1000)
        self.assertEqual(family_of(path_web(2), right), (right,))
        for value in [*ODD_VALUES, [*right], right[:3], (*right, 0), (0, 0, 0, 0), (1, 0, 2, 1001), (1, 0, 2, -1),
                      (1, 0, 2, True), (1, 0, 2, None), (1, 0, 2, BIG), (1, 0, 2, (3,)), (1, 0, 2, deep(list)), ()]:
            with self.assertRaises(InvalidTables):
                family_of(path_web(2), value)
            if value != (1, 0, 2, 1001):
                with self.assertRaises(InvalidTables):
                    clash(path_web(2), (value,))
        self.assertIsNone(clash(path_web(2), ((1000000, 0, 0, 0),)))
        with self.assertRaises(InvalidTables):
            clash(path_web(2), ((1000001, 0, 0, 0),))

    def test_clash(self):
        found = set()
        for web in cases() + some_webs(6, 6, 132):
            for seed in range(6):
                tables = mixed_family(web, seed)
                told = first_clash(web, tables)
                self.assertEqual(clash(web, tables), told)
                found.add(told is None)
                if told is not None and is_leaving(web):
                    for function, more in ((whole_table, ()), (weight_at, ((0,) * web[0],)), (sums_within, ((),)),
                                           (heaviest_row, ())):
                        with self.assertRaises(NotAgreeing) as caught:
                            function(web, tables, *more)
                        self.assertEqual(caught.exception.lots, told)
        self.assertEqual(found, {True, False})
        # Over no place there is one sum: the tables of two pieces have to weigh the same.
        self.assertEqual([clash(bare_web(2), ((1, 2), (2, 1))), clash(bare_web(2), ((1, 2), (2, 2)))], [None, (0, 1)])

    def test_webs_that_cannot_be_left(self):
        for web in (ring_web(4), two_sided_web(8), beside(ring_web(4), path_web(3))):
            tables = drawn_family(web, 1)
            self.assertIsNone(clash(web, tables))
            for function, more in ((whole_table, ()), (weight_at, ((0,) * web[0],)), (sums_within, ((),)),
                                   (heaviest_row, ())):
                with self.assertRaises(NotLeaving) as caught:
                    function(web, tables, *more)
                self.assertIs(is_bare(web, caught.exception.ring), True)

    def test_too_many(self):
        nine, ones = bare_web(9), ((1, 1),) * 9
        for function, arguments, count in ((family_of, (nine, None), 8), (whole_table, (nine, ones), 8),
                                           (is_whole_table, (nine, ones, None), 8),
                                           (sums_within, (nine, ones, tuple(range(7))), 6),
                                           (torn_family, (path_web(11),), 10), (torn_denial, (ring_web(11),), 10)):
            with self.assertRaises(TooMany) as caught:
                function(*arguments)
            self.assertEqual(caught.exception.count, count)
        self.assertEqual(sums_within(bare_web(12), ((1, 1),) * 12, (0, 1, 2, 5, 7, 11)), ((1, 32),) * 64)


class WholeTablesTest(unittest.TestCase):

    def test_against_the_words(self):
        for web in [web for web in cases() if is_leaving(web)]:
            count = tree_count(web)
            for seed in (1, 2):
                tables = drawn_family(web, seed)
                told = whole_table(web, tables)
                self.assertIs(type(told), tuple)
                for number in {0, count // 2, count - 1}:
                    entries = plain_entries(web, tables, nth_tree(web, number))
                    self.assertEqual(told, plain(entries))
                self.assertIs(is_whole_table(web, tables, told), True)
                self.assert_parts(web, tables, entries)

    def assert_parts(self, web, tables, entries):
        every = tuple(range(web[0]))
        for row, entry in list(zip(rows(web[0]), entries))[::5]:
            self.assertEqual(weight_at(web, tables, row), (entry.numerator, entry.denominator))
        best = max(range(len(entries)), key=lambda number: (entries[number], -number))
        self.assertEqual(heaviest_row(web, tables), rows(web[0])[best])
        for lot in lots(web[0])[::3]:
            self.assertEqual(sums_within(web, tables, lot), plain(map(Fraction, sums(entries, every, lot))))
        for table, lot in zip(tables, lot_oracle.whole_lots(web)):
            self.assertEqual(sums(entries, every, lot), list(table))

    def test_any_value(self):
        web, tables = path_web(3), ((1, 1, 0, 2), (1, 0, 0, 3))
        right = ((1, 1), (0, 1), (0, 1), (1, 1), (0, 1), (0, 1), (0, 1), (2, 1))
        self.assertIs(is_whole_table(web, tables, right), True)
        for value in [*ODD_VALUES, [*right], right[:7], (*right, (0, 1)), ([1, 1], *right[1:]), ((2, 2), *right[1:]),
                      ((1, 1), (0, 2), *right[2:]), ((1, 1, 1), *right[1:]), ((1,), *right[1:]), (1, *right[1:]),
                      ((-1, -1), *right[1:]), ((1, True), *right[1:]), ((True, 1), *right[1:]), (None, *right[1:]),
                      ((2, 1), (-1, 1), *right[2:]), ((1, 0), *right[1:]), ((0, 0), *right[1:]), ((1, 2), *right[1:]),
                      ((BIG, 1), *right[1:]), (deep(tuple), *right[1:]), ()]:
            self.assertIs(is_whole_table(web, tables, value), False, value)
        # Other whole tables, of a family of which there are several, and none of one that does not agree.
        ones = ((2, 2), (2, 2))
        self.assertIs(is_whole_table(bare_web(2), ones, ((1, 1),) * 4), True)
        self.assertIs(is_whole_table(bare_web(2), ones, ((1, 3), (5, 3), (5, 3), (1, 3))), True)
        self.assertIs(is_whole_table(bare_web(2), ones, ((2, 1), (0, 1), (0, 1), (2, 1))), True)
        self.assertIs(is_whole_table(bare_web(2), ones, ((3, 1), (-1, 1), (-1, 1), (3, 1))), False)
        self.assertIs(is_whole_table(bare_web(2), ((2, 2), (2, 3)), ((1, 1),) * 4), False)
        self.assertIs(is_whole_table(ring_web(4), ((4,) * 4,) * 4, ((1, 1),) * 16), True)
        self.assertIs(is_whole_table(ring_web(4), ((4,) * 4,) * 4, ((2, 1), (0, 1)) * 8), False)

    def test_edges(self):
        self.assertEqual([whole_table(bare_web(1), ((3, 4),)), heaviest_row(bare_web(1), ((3, 4),))],
                         [((3, 1), (4, 1)), (1,)])
        self.assertEqual([sums_within(bare_web(1), ((3, 4),), ()), sums_within(bare_web(1), ((3, 4),), (0,))],
                         [((7, 1),), ((3, 1), (4, 1))])
        self.assertEqual([weight_at(bare_web(1), ((0, 1000000),), row) for row in ((0,), (1,))], [(0, 1), (1000000, 1)])
        self.assertEqual(whole_table(bare_web(3), ((1, 1),) * 3), ((1, 4),) * 8)
        self.assertEqual(weight_at(bare_web(12), ((1, 1),) * 12, (1, 0) * 6), (1, 2048))
        self.assertEqual(heaviest_row(bare_web(12), ((1, 1),) * 12), (0,) * 12)
        self.assertEqual(heaviest_row(bare_web(12), ((1000000, 0), (0, 1000000)) * 6), (0, 1) * 6)
        self.assertEqual(sums_within(bare_web(12), ((1, 1),) * 12, tuple(range(6))), ((1, 32),) * 64)
        self.assertEqual(whole_table(full_web(2), ((5, 0, 0, 1),)), ((5, 1), (0, 1), (0, 1), (1, 1)))
        for row in [(0, 1), [0, 1, 0], (0, 1, 2), (0, 1, True), (0, 1, 0, 1), (0, 1, None), (), None, 0, deep(list)]:
            with self.assertRaises(InvalidRow):
                weight_at(bare_web(3), ((1, 1),) * 3, row)

    def test_larger_webs(self):
        for web in leaving_webs(8, 5, 133) + [path_web(8), star_web(8), block_web(8, 3)]:
            tables = drawn_family(web, 3, 1000)
            told = whole_table(web, tables)
            self.assertIs(is_whole_table(web, tables, told), True)
            self.assertTrue(all(gcd(*entry) == 1 for entry in told))
            every = sums([Fraction(*entry) for entry in told], tuple(range(8)), (0, 3, 5))
            self.assertEqual(sums_within(web, tables, (0, 3, 5)), plain(every))
            self.assertEqual(weight_at(web, tables, (1, 0) * 4), told[int("10101010", 2)])


class DenialsTest(unittest.TestCase):

    def assert_denial(self, web, tables, value, told):
        self.assertIs(is_denial(web, tables, value), told, (web, tables, value))

    def test_against_the_words(self):
        for web in cases():
            every = tuple(range(web[0]))
            wholes = lot_oracle.whole_lots(web)
            for seed in range(5):
                chance = random.Random(seed)
                tables = mixed_family(web, seed)
                value = tuple(tuple(chance.randrange(-1, 3) for _ in table) for table in tables)
                met = [sum(part[rows(len(lot)).index(at(every, row, lot))] for part, lot in zip(value, wholes))
                       for row in rows(web[0])]
                weight = sum(x * y for part, table in zip(value, tables) for x, y in zip(part, table))
                self.assert_denial(web, tables, value, min(met) >= 0 and weight < 0)

    def test_any_value(self):
        web, tables = bare_web(2), ((2, 2), (3, 3))
        right = ((1, 1), (-1, -1))
        self.assert_denial(web, tables, right, True)
        self.assert_denial(web, tables, ((BIG, BIG), (-BIG, -BIG)), True)
        for value in [*ODD_VALUES, [*right], right[:1], (*right, (0,)), ([1, 1], (-1, -1)), ((1, 1), (-1, -1, 0)),
                      ((1, 1), (-1,)), ((1, True), (-1, -1)), ((1, 1), None), ((1, 1), (-1, None)), (1, 1, -1, -1),
                      ((1, 1), (-1, -2)), ((0, 0), (0, 0)), ((-1, -1), (1, 1)), (right,), ((1, 1), deep(tuple)), (),
                      ((1, 1), (-1, -1), ()), ((), (1, 1), (-1, -1)), ((1, 1), 5, (-1, -1)), ((1, 1), (-1, (1,)))]:
            self.assert_denial(web, tables, value, False)

    def test_torn_families(self):
        webs = small_webs()[::2] + some_webs(6, 20, 134) + some_webs(8, 20, 135) + some_webs(10, 20, 136)
        webs += [ring_web(count) for count in range(4, 11)] + [two_sided_web(10), parted_web(10, 3), parted_web(10, 2)]
        webs += [mirrored(ring_web(10)), mirrored(path_web(10)), tied_twice(ring_web(4), full_web(6)),
                 tied_twice(ring_web(4), bare_web(6)), tied_twice(ring_web(5), ring_web(5)), bare_web(10)]
        for web in webs:
            family, denial = torn_family(web), torn_denial(web)
            if is_leaving(web):
                self.assertEqual([family, denial], [None, None])
                continue
            self.assertIsNone(clash(web, family))
            self.assertIs(type(family), tuple)
            self.assertIs(is_denial(web, family, denial), True)
            self.assertLessEqual(max(1 + sum(1 + len(part) for part in told) for told in (family, denial)), 3000)
            self.assertTrue(all(abs(entry) < 10 ** 60 for part in denial for entry in part))

    def test_no_family_of_a_leaving_web_that_agrees_has_a_denial(self):
        for web in [web for web in cases() if is_leaving(web)]:
            tables = drawn_family(web, 4)
            chance = random.Random(repr(web))
            for _ in range(20):
                value = tuple(tuple(chance.randrange(-2, 4) for _ in table) for table in tables)
                self.assert_denial(web, tables, value, False)

    def test_a_denial_denies(self):
        # The round of four with the torn family: no table of entries 0, 1, 2 has its sums.
        web = ring_web(4)
        tables = torn_family(web)
        free = [number for number, row in enumerate(rows(4))
                if all(table[rows(2).index(at((0, 1, 2, 3), row, lot))] for table, lot in zip(tables, whole_lots(web)))]
        self.assertEqual(free, [])
        self.assertIs(is_whole_table(web, tables, ((1, 8),) * 16), False)


class FactsTest(unittest.TestCase):

    def test_parted_lots(self):
        for web in leaving_webs(5, 6, 137) + [path_web(5), star_web(5), path_web(4)]:
            entries = [Fraction(*entry) for entry in whole_table(web, drawn_family(web, 5))]
            self.assertIs(parted_well(web, entries), True)
            drawn = drawn_family(full_web(web[0]), 6)[0]
            own = whole_table(web, family_of(web, drawn))
            self.assertIs(own == plain(map(Fraction, drawn)), parted_well(web, [Fraction(entry) for entry in drawn]))

    def test_given_back(self):
        # A table that is a product over the whole lots has the property, so it comes back.
        for web in leaving_webs(5, 6, 138) + [path_web(4), star_web(5), bare_web(3)]:
            every = tuple(range(web[0]))
            table = []
            for row in rows(web[0]):
                entry = 1
                for k, lot in enumerate(lot_oracle.whole_lots(web)):
                    entry *= 1 + (k + sum(at(every, row, lot))) % 2
                table.append(entry)
            self.assertEqual(whole_table(web, family_of(web, tuple(table))), plain(map(Fraction, table)))


def parted_well(web, entries):
    """The property of K2, for all lots C and the pieces without C in two groups."""
    every = tuple(range(web[0]))
    told = {lot: dict(zip(rows(len(lot)), sums(entries, every, lot))) for lot in lots(web[0])}
    for c in lots(web[0]):
        found = pieces(web, c)
        for size in range(1, len(found)):
            for some in combinations(found, size):
                a = tuple(sorted(x for piece in some for x in piece))
                b = tuple(x for x in every if x not in a and x not in c)
                ac, bc = tuple(sorted(a + c)), tuple(sorted(b + c))
                for row in rows(web[0]):
                    whole = told[every][row] * told[c][at(every, row, c)]
                    if whole != told[ac][at(every, row, ac)] * told[bc][at(every, row, bc)]:
                        return False
    return True


class TwelveTest(unittest.TestCase):

    def test_webs_of_twelve(self):
        for web in [web for web in webs_of_twelve()[::3] if is_leaving(web)]:
            wholes = whole_lots(web)
            if sum(1 + 2 ** len(lot) for lot in wholes) > 3000:
                continue
            entry = [2 ** (12 - len(lot)) for lot in wholes]
            tables = tuple((many,) * 2 ** len(lot) for many, lot in zip(entry, wholes))
            self.assertIsNone(clash(web, tables))
            self.assertEqual(weight_at(web, tables, (1, 0, 0) * 4), (1, 1))
            self.assertEqual(heaviest_row(web, tables), (0,) * 12)
            self.assertEqual(sums_within(web, tables, (1, 4, 6)), ((512, 1),) * 8)


if __name__ == "__main__":
    unittest.main()

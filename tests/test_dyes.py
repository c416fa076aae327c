"""[26], [27], G1 to G5: dyeings, their numbers, exchanges."""

import unittest
from itertools import permutations, product

from leaveorder.bare_rounds import is_bare
from leaveorder.dyes import (direction_count, dyed_back, dyeing_count, dyeing_number, exchange_row, exchanged,
                             fewest_dyes, first_dyeing, is_dyeing, is_exchange_row, later_counts, nth_dyeing)
from leaveorder.errors import InvalidDye, InvalidDyeing, InvalidRow, NotLeaving
from leaveorder.leaving import first_order, is_leaving
from leaveorder.orders import nth_order, order_count
from leaveorder.webs import beside
from tests import lot_oracle, oracle
from tests.at_hand import (BIG, ODD_VALUES, all_webs, bare_web, block_web, deep, full_web, leaving_webs, path_web,
                           ring_web, star_web, two_sided_web, webs_of_twelve)


def cases():
    webs = [web for count in (1, 2, 3, 4) for web in all_webs(count)] + all_webs(5)[::60]
    return [web for web in webs if is_leaving(web)] + leaving_webs(5, 6, 83) + leaving_webs(6, 3, 84)


def dyeings(web, dyes):
    return [row for row in product(range(dyes), repeat=web[0]) if all(row[x] != row[y] for x, y in web[1])]


def number_of(web, dyes, dyeing):
    """By the words of the document."""
    order, number = first_order(web), 0
    for at in reversed(range(web[0])):
        held = [dyeing[y] for y in order[at:] if oracle.tied(web, y, order[at])]
        free = [dye for dye in range(dyes) if dye not in held]
        number = number * len(free) + free.index(dyeing[order[at]])
    return number


def turned(web, dyeing, place, dye):
    chain = [place]
    for x in chain:
        chain += [y for y in oracle.near(web, x) if y not in chain and dyeing[y] in (dye, dyeing[place])]
    swap = {dye: dyeing[place], dyeing[place]: dye}
    return tuple(swap[held] if x in chain else held for x, held in enumerate(dyeing))


class DyeingsTest(unittest.TestCase):

    def test_against_all_dyeings(self):
        for web in cases():
            for dyes in range(5 if web[0] < 6 else 4):
                found = dyeings(web, dyes)
                self.assertEqual(dyeing_count(web, dyes), len(found))
                self.assertEqual(first_dyeing(web, dyes), found[0] if found else None)
                numbers = {number_of(web, dyes, dyeing): dyeing for dyeing in found}
                self.assertEqual(sorted(numbers), list(range(len(found))))
                for number in list(numbers)[::max(1, len(found) // 30)]:
                    self.assertEqual(nth_dyeing(web, dyes, number), numbers[number])
                    self.assertEqual(dyeing_number(web, dyes, numbers[number]), number)
                for number in (len(found), len(found) + 3, BIG):
                    self.assertIsNone(nth_dyeing(web, dyes, number))
                for row in list(product(range(dyes), repeat=web[0]))[::5]:
                    self.assertIs(is_dyeing(web, dyes, row), row in found)

    def test_the_fewest(self):
        for web in cases():
            least = [dyes for dyes in range(7) if dyeings(web, dyes)][0]
            self.assertEqual(fewest_dyes(web), least)
            self.assertEqual(max(len(lot) for lot in lot_oracle.tied_lots(web)), least)
            self.assertEqual(later_counts(web)[-1] + 1, least)

    def test_later_counts_and_dyed_back(self):
        for web in cases():
            for order in lot_oracle.orders(web)[::11]:
                later = [[y for y in order[at:] if oracle.tied(web, x, y)] for at, x in enumerate(order)]
                self.assertEqual(later_counts(web), tuple(sorted(len(lot) for lot in later)))
                dyeing = {}
                for x, lot in list(zip(order, later))[::-1]:
                    dyeing[x] = min(set(range(9)) - {dyeing[y] for y in lot})
                told = tuple(dyeing[x] for x in range(web[0]))
                self.assertEqual(dyed_back(web, order), told)
                self.assertEqual(sorted(set(told)), list(range(fewest_dyes(web))))

    def test_dyed_back_wants_an_order(self):
        for web in [path_web(4), ring_web(4), full_web(3)]:
            for row in permutations(range(web[0])):
                if not lot_oracle.is_leaving_row(web, row):
                    with self.assertRaises(InvalidRow):
                        dyed_back(web, row)

    def test_directions(self):
        for web in [web for web in cases() if len(web[1]) < 8]:
            count = 0
            for ways in product((False, True), repeat=len(web[1])):
                ties = [tie[::-1] if way else tie for tie, way in zip(web[1], ways)]
                left = set(range(web[0]))
                while any(not any(y == x and z in left for z, y in ties) for x in left):
                    left -= {x for x in left if not any(y == x and z in left for z, y in ties)}
                count += not left
            self.assertEqual(direction_count(web), count)

    def test_webs_that_cannot_be_left(self):
        for web in (ring_web(4), two_sided_web(12), beside(ring_web(6), bare_web(5)), ring_web(12)):
            dyeing = (0, 1) * (web[0] // 2) + (0,) * (web[0] % 2)
            dyeing = dyeing if is_dyeing(web, 2, dyeing) else (0,) * (web[0] // 2) + (1,) * (web[0] // 2)
            self.assertIs(is_dyeing(web, 2, dyeing), True)
            self.assertIs(is_dyeing(web, 1, dyeing), False)
            for function, more in ((dyeing_count, (2,)), (fewest_dyes, ()), (later_counts, ()), (direction_count, ()),
                                   (first_dyeing, (2,)), (first_dyeing, (0,)), (dyeing_number, (2, dyeing)),
                                   (nth_dyeing, (2, 0)), (nth_dyeing, (2, BIG)), (exchanged, (2, dyeing, 0, 1)),
                                   (exchange_row, (2, dyeing, dyeing)), (is_exchange_row, (2, dyeing, dyeing, [])),
                                   (is_exchange_row, (2, dyeing, dyeing, None))):
                with self.assertRaises(NotLeaving) as caught:
                    function(web, *more)
                self.assertIs(is_bare(web, caught.exception.ring), True)

    def test_dyeings_of_any_value(self):
        path = path_web(4)
        for value in [*ODD_VALUES, [0, 1, 0, 1], (0, 1, 0), (0, 1, 0, 1, 0), (0, 1, 0, 2), (0, 0, 1, 0), (0, 1, 0, -1),
                      (0, True, 0, 1), (0, 1, 0, None), (0, 1, 0, (1,)), (0, 1, 0, deep(list)), (0, 1, 0, "1")]:
            self.assertIs(is_dyeing(path, 2, value), False, value)
            self.assertIs(is_dyeing(ring_web(4), 2, value), False)
        self.assertIs(is_dyeing(ring_web(4), 2, (0, 1, 0, 1)), True)
        self.assertIs(is_dyeing(path, 1000, (999, 0, 999, 3)), True)
        self.assertIs(is_dyeing(path, 999, (999, 0, 999, 3)), False)
        self.assertIs(is_dyeing(bare_web(1), 0, (0,)), False)

    def test_edges(self):
        self.assertEqual([dyeing_count(bare_web(1), dyes) for dyes in (0, 1, 1000)], [0, 1, 1000])
        self.assertEqual([first_dyeing(bare_web(1), 0), first_dyeing(bare_web(1), 1), nth_dyeing(bare_web(1), 0, 0)],
                         [None, (0,), None])
        self.assertEqual(nth_dyeing(bare_web(1), 1000, 999), (999,))
        self.assertEqual([fewest_dyes(bare_web(12)), fewest_dyes(full_web(12))], [1, 12])
        self.assertEqual([direction_count(bare_web(12)), direction_count(full_web(12))], [1, 479001600])
        self.assertEqual([dyeing_count(full_web(12), dyes) for dyes in (0, 1, 11, 12)], [0, 0, 0, 479001600])
        self.assertEqual([dyeing_count(bare_web(12), dyes) for dyes in (0, 1, 1000)], [0, 1, 1000 ** 12])
        self.assertEqual(first_dyeing(full_web(12), 1000), tuple(range(12)))
        self.assertEqual(nth_dyeing(bare_web(12), 1000, 1000 ** 12 - 1), (999,) * 12)
        self.assertIsNone(nth_dyeing(bare_web(12), 1000, 1000 ** 12))
        self.assertEqual(dyeing_number(bare_web(12), 1000, (999,) * 12), 1000 ** 12 - 1)
        self.assertEqual(later_counts(star_web(12)), (0, *[1] * 11))
        with self.assertRaises(InvalidDyeing):
            dyeing_number(bare_web(1), 0, (0,))

    def test_webs_of_twelve(self):
        for web in [web for web in webs_of_twelve() if is_leaving(web)]:
            fewest = fewest_dyes(web)
            self.assertIsNone(first_dyeing(web, fewest - 1))
            first = first_dyeing(web, fewest)
            self.assertIs(is_dyeing(web, fewest, first), True)
            self.assertLessEqual(first, dyed_back(web, first_order(web)))
            for dyes in (fewest, fewest + 1, 1000):
                count = dyeing_count(web, dyes)
                for number in (0, count // 3, count - 1):
                    dyeing = nth_dyeing(web, dyes, number)
                    self.assertIs(is_dyeing(web, dyes, dyeing), True)
                    self.assertEqual(dyeing_number(web, dyes, dyeing), number)
                self.assertIsNone(nth_dyeing(web, dyes, count))
            order = nth_order(web, order_count(web) - 1)
            self.assertEqual(sorted(set(dyed_back(web, order))), list(range(fewest)))


class ExchangesTest(unittest.TestCase):

    def test_all_exchanges(self):
        for web in cases():
            for dyes in (2, 3, 4):
                found = dyeings(web, dyes)
                for dyeing in found[::max(1, len(found) // 25)]:
                    for place in range(web[0]):
                        for dye in range(dyes):
                            if dye == dyeing[place]:
                                with self.assertRaises(InvalidDye):
                                    exchanged(web, dyes, dyeing, place, dye)
                                continue
                            told = exchanged(web, dyes, dyeing, place, dye)
                            self.assertEqual(told, turned(web, dyeing, place, dye))
                            self.assertIs(is_dyeing(web, dyes, told), True)
                            self.assertEqual(exchanged(web, dyes, told, place, dyeing[place]), dyeing)

    def assert_row(self, web, dyes, dyeing, other):
        row = exchange_row(web, dyes, dyeing, other)
        self.assertIs(type(row), list)
        self.assertLessEqual(len(row), web[0])
        self.assertEqual(row == [], dyeing == other)
        self.assertIs(is_exchange_row(web, dyes, dyeing, other, row), True)
        for place, dye in row:
            self.assertNotEqual(dyeing[place], dye)
            dyeing = turned(web, dyeing, place, dye)
        self.assertEqual(dyeing, other)

    def test_from_any_to_any(self):
        for web in cases():
            for dyes in (1, 2, 3, 4):
                found = dyeings(web, dyes)
                some = found[::max(1, len(found) // 8)] + found[-1:]
                for dyeing in some:
                    for other in some:
                        self.assert_row(web, dyes, dyeing, other)

    def test_webs_of_twelve(self):
        for web in [web for web in webs_of_twelve() if is_leaving(web)]:
            for dyes in (fewest_dyes(web), fewest_dyes(web) + 1, 1000):
                count = dyeing_count(web, dyes)
                some = [nth_dyeing(web, dyes, number) for number in (0, count // 3, count // 2, count - 1)]
                for dyeing in some:
                    for other in some:
                        self.assert_row(web, dyes, dyeing, other)

    def test_rows_of_any_value(self):
        path = path_web(4)
        start, end = (0, 1, 0, 1), (1, 0, 1, 0)
        for row, told in (([(3, 0)], True), ([(0, 1)], True), ([(3, 0)] * 3, False), ([(3, 0), (3, 1), (3, 0)], True),
                          ([], False), ([(3, 1)], False), ([[3, 0]], False), (((3, 0),), False), ([(3, 0, 0)], False),
                          ([(3,)], False), ([(4, 0)], False), ([(-1, 0)], False), ([(3, 2)], False), ([(3, -1)], False),
                          ([(3, False)], False), ([(True, 0)], False), ([(3, None)], False), ([(BIG, 0)], False),
                          ([(3, BIG)], False), ([3, 0], False), ([(3, 0), None], False), ([(3, 0), deep(list)], False),
                          ([((3,), 0)], False)):
            self.assertIs(is_exchange_row(path, 2, start, end, row), told, row)
        for value in ODD_VALUES:
            self.assertIs(is_exchange_row(path, 2, start, end, value), False)
            self.assertIs(is_exchange_row(path, 2, start, start, value), value == [] and type(value) is list)
        self.assertEqual([is_exchange_row(path, 2, start, start, row) for row in ([], (), [(3, 0), (3, 1)], [(3, 0)])],
                         [True, False, True, False])
        # Dyes out of bounds, though the row leads back.
        for dye in (2, 3, -1, BIG):
            self.assertIs(is_exchange_row(path, 2, start, start, [(3, dye), (3, 1)]), False)
            self.assertIs(is_exchange_row(path, 3, start, start, [(3, dye), (3, 1)]), dye == 2)
        self.assertIs(is_exchange_row(block_web(12, 4), 1000, tuple(range(12)), tuple(range(12)),
                                      [(0, 999), (0, 0)] * 450), True)


if __name__ == "__main__":
    unittest.main()

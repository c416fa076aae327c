"""[6], [7], [8], A2 and what A6 says of pieces: webs and what is made of them."""

import random
import unittest
from itertools import permutations

from leaveorder.bare_rounds import bare_ring, rest
from leaveorder.errors import InvalidLot, InvalidText, Refused, TooMany
from leaveorder.webs import (beside, inner, is_apart, is_tied, is_web, less_tie, mirrored, neighbours, pieces, renamed,
                             web_told, with_tie)
from tests import oracle
from tests.at_hand import (BIG, ODD_VALUES, all_webs, bare_web, deep, full_web, large_webs, lots, pairs, ring_web,
                           small_webs, some_webs)


class IsWebTest(unittest.TestCase):

    def test_webs(self):
        for web in small_webs() + large_webs() + [bare_web(count) for count in range(1, 13)]:
            self.assertIs(is_web(web), True, web)

    def test_other_values(self):
        for value in ODD_VALUES:
            self.assertIs(is_web(value), False, value)

    def test_the_number_of_places(self):
        for count in (0, -1, 13, 14, BIG, -BIG, True, False, None, "3", (3,), [3], deep(tuple)):
            self.assertIs(is_web((count, ())), False, count)

    def test_the_tuple_itself(self):
        for value in ((), (3,), ((), 3), (3, (), ()), [3, ()], (3, []), (3, None), (3, ""), (3, 0), (3, {}), "c:"):
            self.assertIs(is_web(value), False, value)

    def test_the_ties(self):
        wrong = [
            ((1, 0),), ((0, 0),), ((0, 3),), ((-1, 0),), ((3, 4),), ((0, 1), (0, 1)), ((0, 2), (0, 1)), ((1, 2), (0, 1)),
            ((0, 1), (1, 2), (0, 2)), ([0, 1],), ((0, True),), ((False, 1),), ((0, 1, 2),), ((0,),), ((),), (0, 1),
            ("ab",), (None,), ((0, None),), ((0, "1"),), ((0, BIG),), ((-BIG, 0),), ((0, 1), None), ((0, 1), 2),
            ((0, 1), [0, 2]), (((0, 1),),), ((0, (1,)),), deep(tuple), ((0, deep(list)),), [(0, 1)], ((0, 1), (True, 2)),
        ]
        for ties in wrong:
            self.assertIs(is_web((3, ties)), False, ties)

    def test_objects_of_subclasses_are_other_values(self):
        class Number(int):
            pass

        class Row(tuple):
            pass

        self.assertIs(is_web((Number(2), ())), False)
        self.assertIs(is_web((2, ((0, Number(1)),))), False)
        self.assertIs(is_web(Row((2, ()))), False)
        self.assertIs(is_web((2, Row(()))), False)
        self.assertIs(is_web((2, (Row((0, 1)),))), False)

    def test_objects_of_other_classes_with_the_same_names(self):
        for name in ("int", "tuple", "str"):
            odd = type(name, (), {})()
            for value in (odd, (odd, ()), (2, odd), (2, (odd,)), (2, ((0, odd),))):
                self.assertIs(is_web(value), False)
            with self.assertRaises(InvalidText):
                web_told(odd)


class AskedTest(unittest.TestCase):

    def test_neighbours(self):
        for web in small_webs() + large_webs():
            for place in range(web[0]):
                self.assertEqual(neighbours(web, place), oracle.near(web, place))
        self.assertEqual(neighbours(bare_web(1), 0), ())
        self.assertEqual(neighbours(full_web(12), 11), tuple(range(11)))

    def test_tied_and_apart_lots(self):
        for web in small_webs() + some_webs(7, 8, 2):
            for lot in lots(web[0]):
                self.assertIs(is_tied(web, lot), oracle.all_tied(web, lot), (web, lot))
                self.assertIs(is_apart(web, lot), oracle.none_tied(web, lot), (web, lot))

    def test_small_lots_are_both(self):
        for web in (bare_web(12), full_web(12), bare_web(1)):
            for lot in [(), *[(place,) for place in range(web[0])]]:
                self.assertIs(is_tied(web, lot), True)
                self.assertIs(is_apart(web, lot), True)

    def test_all_places(self):
        every = tuple(range(12))
        self.assertEqual([is_tied(full_web(12), every), is_apart(full_web(12), every)], [True, False])
        self.assertEqual([is_tied(bare_web(12), every), is_apart(bare_web(12), every)], [False, True])
        less = less_tie(full_web(12), (10, 11))
        self.assertEqual([is_tied(less, every), is_apart(with_tie(bare_web(12), 10, 11), every)], [False, False])


class PiecesTest(unittest.TestCase):

    def test_pieces_without_each_lot(self):
        for web in small_webs() + some_webs(7, 10, 3):
            for lot in lots(web[0]):
                told = pieces(web, lot)
                self.assertEqual(told, oracle.pieces(web, lot), (web, lot))
                self.assertIsInstance(told, list)

    def test_pieces_of_the_whole_web(self):
        for web in small_webs() + large_webs():
            self.assertEqual(pieces(web), oracle.pieces(web, ()))
            self.assertEqual(pieces(web), pieces(web, ()))

    def test_no_place_left(self):
        for web in (bare_web(1), bare_web(12), full_web(12)):
            self.assertEqual(pieces(web, tuple(range(web[0]))), [])

    def test_no_ties_and_a_long_way(self):
        self.assertEqual(pieces(bare_web(12)), [(place,) for place in range(12)])
        self.assertEqual(pieces(ring_web(12), (3, 9)), [(0, 1, 2, 10, 11), (4, 5, 6, 7, 8)])
        self.assertEqual(pieces((4, ((0, 3), (1, 2)))), [(0, 3), (1, 2)])

    def test_a_web_is_left_exactly_if_its_pieces_are(self):
        for web in small_webs() + large_webs():
            told = [rest(inner(web, piece)) == () for piece in pieces(web)]
            self.assertEqual(rest(web) == (), all(told), web)

    def test_webs_that_can_always_be_left(self):
        webs = [web for count in (1, 2, 3) for web in all_webs(count)] + [full_web(count) for count in range(1, 13)]
        webs += [web for web in small_webs() + large_webs() if len(web[1]) == web[0] - len(pieces(web))]
        for web in webs:
            self.assertEqual((rest(web), bare_ring(web)), ((), None), web)


class MadeTest(unittest.TestCase):

    def test_inner(self):
        for web in small_webs() + some_webs(8, 6, 4):
            for lot in lots(web[0])[1:]:
                told = inner(web, lot)
                self.assertTrue(is_web(told))
                self.assertEqual(told[0], len(lot))
                for i, j in pairs(len(lot)):
                    self.assertEqual(oracle.tied(told, i, j), oracle.tied(web, lot[i], lot[j]))
        self.assertEqual(inner(full_web(12), (11,)), (1, ()))
        self.assertEqual(inner(ring_web(12), tuple(range(12))), ring_web(12))

    def test_inner_of_no_places(self):
        for web in (bare_web(1), full_web(12)):
            with self.assertRaises(InvalidLot):
                inner(web, ())

    def test_renamed(self):
        for web in all_webs(4):
            for row in permutations(range(4)):
                told = renamed(web, row)
                self.assertTrue(is_web(told))
                for x, y in pairs(4):
                    self.assertEqual(oracle.tied(told, row[x], row[y]), oracle.tied(web, x, y))
        self.assertEqual(renamed((3, ((0, 1),)), (1, 2, 0)), (3, ((1, 2),)))
        self.assertEqual(renamed(bare_web(1), (0,)), bare_web(1))

    def test_renamed_and_back(self):
        chance = random.Random(5)
        for web in large_webs():
            row = list(range(web[0]))
            chance.shuffle(row)
            undone = tuple(row.index(place) for place in range(web[0]))
            self.assertEqual(renamed(renamed(web, tuple(row)), undone), web)

    def test_beside(self):
        for web in all_webs(3):
            for other in all_webs(4)[::5]:
                told = beside(web, other)
                self.assertTrue(is_web(told))
                self.assertEqual(told[0], 7)
                self.assertEqual(inner(told, (0, 1, 2)), web)
                self.assertEqual(inner(told, (3, 4, 5, 6)), other)
                self.assertFalse([tie for tie in told[1] if tie[0] < 3 <= tie[1]])

    def test_beside_up_to_12_places(self):
        for count in range(1, 12):
            self.assertEqual(beside(full_web(count), bare_web(12 - count)), (12, full_web(count)[1]))
        for count, other in ((12, 1), (1, 12), (6, 7), (12, 12)):
            with self.assertRaises(TooMany) as caught:
                beside(bare_web(count), full_web(other))
            self.assertEqual(caught.exception.count, 12)

    def test_tie_put_in_and_taken_out(self):
        for web in small_webs() + large_webs()[::4]:
            for x, y in pairs(web[0]):
                if (x, y) in web[1]:
                    for place, other in ((x, y), (y, x)):
                        with self.assertRaises(Refused):
                            with_tie(web, place, other)
                    less = less_tie(web, (x, y))
                    self.assertTrue(is_web(less))
                    self.assertEqual(set(less[1]), set(web[1]) - {(x, y)})
                    self.assertEqual(with_tie(less, x, y), web)
                else:
                    more = with_tie(web, x, y)
                    self.assertTrue(is_web(more))
                    self.assertEqual(set(more[1]), set(web[1]) | {(x, y)})
                    self.assertEqual(with_tie(web, y, x), more)
                    self.assertEqual(less_tie(more, (x, y)), web)

    def test_mirrored(self):
        for web in small_webs() + large_webs():
            told = mirrored(web)
            self.assertTrue(is_web(told))
            self.assertEqual(told[0], web[0])
            for x, y in pairs(web[0]):
                self.assertNotEqual(oracle.tied(told, x, y), oracle.tied(web, x, y))
            self.assertEqual(mirrored(told), web)
        self.assertEqual(mirrored(bare_web(12)), full_web(12))
        self.assertEqual(mirrored(bare_web(1)), bare_web(1))

    def test_tied_exactly_if_apart_in_the_mirrored_web(self):
        for web in small_webs() + some_webs(8, 5, 6):
            for lot in lots(web[0]):
                self.assertEqual(is_tied(web, lot), is_apart(mirrored(web), lot))

    def test_webs_named_in_the_document(self):
        self.assertEqual(mirrored(web_told("d:ab,bc,cd")), web_told("d:ac,ad,bd"))
        self.assertEqual(pieces(web_told("d:ab,ac,ad"), (0,)), [(1,), (2,), (3,)])


if __name__ == "__main__":
    unittest.main()

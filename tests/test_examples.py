"""The rows of the document's examples that use webs and bare rounds alone."""

import unittest

from leaveorder.bare_rounds import (bare_ring, bare_rings, bare_through, bared, is_bare, least_bare, least_stuck, rest,
                                    rest_among, ring_told, ties_across)
from leaveorder.errors import InvalidText
from leaveorder.webs import is_apart, is_tied, mirrored, neighbours, web_text, web_told

path, ring = web_told("d:ab,bc,cd"), web_told("d:ab,ad,bc,cd")
fan = web_told("d:ab,ac,ad,bc,cd")
house = web_told("e:ab,ad,ae,bc,be,cd")


class ExamplesTest(unittest.TestCase):

    def test_webs(self):
        self.assertEqual([path, ring], [(4, ((0, 1), (1, 2), (2, 3))), (4, ((0, 1), (0, 3), (1, 2), (2, 3)))])
        self.assertEqual(
            [web_text(mirrored(path)), neighbours(fan, 0), is_tied(fan, (0, 1, 2)), is_apart(fan, (1, 3)),
             web_told("a:")],
            ["d:ac,ad,bd", (1, 2, 3), True, True, (1, ())])

    def test_texts_that_are_refused(self):
        for text, index in (("c:ab,ab", 6), ("c:bc,", 4)):
            with self.assertRaises(InvalidText) as caught:
                web_told(text)
            self.assertEqual(caught.exception.index, index)

    def test_bare_rounds(self):
        self.assertEqual(
            [bare_ring(ring), bare_ring(fan), is_bare(ring, (0, 1, 2, 3)), is_bare(ring, (1, 2, 3, 0)),
             is_bare(fan, (0, 1, 2, 3))],
            [(0, 1, 2, 3), None, True, False, False])
        self.assertEqual(
            [ring_told(fan, (3, 2, 1, 0)), ties_across(fan, (3, 2, 1, 0)), bared(fan, (0, 1, 2, 3)),
             bare_through(ring, (0, 3))],
            [(0, 1, 2, 3), ((0, 2),), None, (0, 1, 2, 3)])

    def test_rests(self):
        self.assertEqual(
            [bare_rings(house), least_bare(house), rest(house), rest(fan), least_stuck(house),
             rest_among(house, (0, 1, 4))],
            [[(0, 1, 2, 3)], (0, 1, 2, 3), (0, 1, 2, 3), (), (0, 1, 2, 3), ()])

    def test_webs_told_in_later_parts(self):
        told = {
            "d:ab,ac,ad": (4, ((0, 1), (0, 2), (0, 3))),
            "e:ab,ac,ad,ae,bc,cd,de": (5, ((0, 1), (0, 2), (0, 3), (0, 4), (1, 2), (2, 3), (3, 4))),
            "d:ab,ad,bc,cd": (4, ((0, 1), (0, 3), (1, 2), (2, 3))),
            "e:ab,ae,bc,cd,de": (5, ((0, 1), (0, 4), (1, 2), (2, 3), (3, 4))),
            "g:ab,ac,ad,be,cf,dg": (7, ((0, 1), (0, 2), (0, 3), (1, 4), (2, 5), (3, 6))),
            "f:ab,ad,bc,cd,de,df": (6, ((0, 1), (0, 3), (1, 2), (2, 3), (3, 4), (3, 5))),
            "c:ab,bc": (3, ((0, 1), (1, 2))),
            "b:ab": (2, ((0, 1),)),
            "b:": (2, ()),
            "c:": (3, ()),
        }
        for text, web in told.items():
            self.assertEqual(web_told(text), web)
            self.assertEqual(web_text(web), text)


if __name__ == "__main__":
    unittest.main()

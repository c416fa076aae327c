"""All rows of the document's examples."""

import unittest

from leaveorder.bare_rounds import (bare_ring, bare_rings, bare_through, bared, is_bare, least_bare, least_stuck, rest,
                                    rest_among, ring_told, ties_across)
from leaveorder.console import Console
from leaveorder.covers import (apart_along, apart_counts, apart_number, apart_paper, fewest_cover, heaviest_apart,
                               is_apart_paper, is_weight_paper, most_apart, nth_apart)
from leaveorder.dyes import (direction_count, dyed_back, dyeing_count, exchange_row, exchanged, fewest_dyes,
                             first_dyeing, is_dyeing, is_exchange_row, later_counts)
from leaveorder.errors import (InvalidText, NotApart, NotEven, NotFilling, NotLeaving, NotParting, NotShown, NotTied,
                               NotTree, Refused)
from leaveorder.fillings import (fewest_count, filling_by, filling_by_lots, is_calm, is_filling, is_greatest_calm,
                                 is_least_filling, least_fillings, lots_of_filling, spare_ties)
from leaveorder.joining import drawn, firm_lots, glued, is_firm, power, put_in, with_place
from leaveorder.leaving import (first_hitch, first_order, is_order, later_neighbours, may_leave, order_ending)
from leaveorder.live import LeavingLive, Live
from leaveorder.lot_trees import (branches, first_tree, fixed_branches, is_lot_tree, meets, nth_tree, split_place,
                                  tree_count, tree_exchanged, tree_exchanges, tree_number, tree_row, tree_sum, trees,
                                  way_meets)
from leaveorder.orders import ahead_count, index_counts, next_order, nth_order, order_count, order_number
from leaveorder.paper_texts import paper_text, paper_told
from leaveorder.partings import (fewest_parting, first_crossing, full_pieces, is_crossing, is_least_parting, is_parting,
                                 least_in, part_counts, partings, partings_of)
from leaveorder.starts import free_in, is_start, order_staying, start_count, stay_over
from leaveorder.stretches import (apart_three, claw, even_order, line_order_count, lot_row_count, nth_line_order,
                                  nth_lot_row, stretches, web_of_stretches)
from leaveorder.subtrees import (across, beyond, common_spots, is_host, is_spread, is_spread_of, order_from, spanned,
                                 spread_of, trimmed, web_of_spread)
from leaveorder.swaps import fewest_swaps, is_swap_row, swapped, swaps_of
from leaveorder.tables import clash, heaviest_row, sums_within, weight_at, whole_table
from leaveorder.webs import is_apart, is_tied, mirrored, neighbours, web_text, web_told
from leaveorder.whole_lots import greatest_lot, heads, is_whole, lots_with, tied_counts, whole_lots
from leaveorder.widths import is_thicket, meeting_lot, thicket_order, widest_thicket, width, width_by

path, ring = web_told("d:ab,bc,cd"), web_told("d:ab,ad,bc,cd")
fan = web_told("d:ab,ac,ad,bc,cd")
house = web_told("e:ab,ad,ae,bc,be,cd")
star = web_told("d:ab,ac,ad")
palm = web_told("e:ab,ac,ad,ae,bc,cd,de")
square, five = web_told("d:ab,ad,bc,cd"), web_told("e:ab,ae,bc,cd,de")


class ExamplesTest(unittest.TestCase):

    def test_webs(self):
        self.assertEqual([path, ring], [(4, ((0, 1), (1, 2), (2, 3))), (4, ((0, 1), (0, 3), (1, 2), (2, 3)))])
        self.assertEqual(
            [web_text(mirrored(path)), neighbours(fan, 0), is_tied(fan, (0, 1, 2)), is_apart(fan, (1, 3)),
             web_told("a:")],
            ["d:ac,ad,bd", (1, 2, 3), True, True, (1, ())])

    def test_texts_that_are_refused(self):
        for text, index in (("c:ab,ab", 6), ("c:bc,", 4)):
            with self.assertRaises(InvalidText) as caught:
                web_told(text)
            self.assertEqual(caught.exception.index, index)

    def test_bare_rounds(self):
        self.assertEqual(
            [bare_ring(ring), bare_ring(fan), is_bare(ring, (0, 1, 2, 3)), is_bare(ring, (1, 2, 3, 0)),
             is_bare(fan, (0, 1, 2, 3))],
            [(0, 1, 2, 3), None, True, False, False])
        self.assertEqual(
            [ring_told(fan, (3, 2, 1, 0)), ties_across(fan, (3, 2, 1, 0)), bared(fan, (0, 1, 2, 3)),
             bare_through(ring, (0, 3))],
            [(0, 1, 2, 3), ((0, 2),), None, (0, 1, 2, 3)])

    def test_rests(self):
        self.assertEqual(
            [bare_rings(house), least_bare(house), rest(house), rest(fan), least_stuck(house),
             rest_among(house, (0, 1, 4))],
            [[(0, 1, 2, 3)], (0, 1, 2, 3), (0, 1, 2, 3), (), (0, 1, 2, 3), ()])

    def test_webs_told_in_later_parts(self):
        told = {
            "d:ab,ac,ad": (4, ((0, 1), (0, 2), (0, 3))),
            "e:ab,ac,ad,ae,bc,cd,de": (5, ((0, 1), (0, 2), (0, 3), (0, 4), (1, 2), (2, 3), (3, 4))),
            "d:ab,ad,bc,cd": (4, ((0, 1), (0, 3), (1, 2), (2, 3))),
            "e:ab,ae,bc,cd,de": (5, ((0, 1), (0, 4), (1, 2), (2, 3), (3, 4))),
            "g:ab,ac,ad,be,cf,dg": (7, ((0, 1), (0, 2), (0, 3), (1, 4), (2, 5), (3, 6))),
            "f:ab,ad,bc,cd,de,df": (6, ((0, 1), (0, 3), (1, 2), (2, 3), (3, 4), (3, 5))),
            "c:ab,bc": (3, ((0, 1), (1, 2))),
            "b:ab": (2, ((0, 1),)),
            "b:": (2, ()),
            "c:": (3, ()),
        }
        for text, web in told.items():
            self.assertEqual(web_told(text), web)
            self.assertEqual(web_text(web), text)


class LeavingExamplesTest(unittest.TestCase):

    def test_who_may_leave(self):
        self.assertEqual(
            [may_leave(path), may_leave(fan), may_leave(ring), may_leave(ring, (2,)), may_leave(fan, (0, 1, 2, 3))],
            [(0, 3), (1, 3), (), (1, 3), ()])

    def test_orders(self):
        self.assertEqual(
            [first_order(path), first_order(fan), order_ending(fan, (1, 2)), order_ending(path, (3,)),
             is_order(path, (3, 0, 2, 1))],
            [(0, 1, 2, 3), (1, 0, 2, 3), (3, 0, 1, 2), (0, 1, 2, 3), True])
        self.assertEqual(
            [later_neighbours(fan, (1, 3, 2, 0)), first_hitch(path, (0, 2, 1, 3)), first_hitch(path, (3, 2, 1, 0))],
            [[(0, 2), (0, 2), (0,), ()], 1, None])

    def test_errors(self):
        with self.assertRaises(NotLeaving) as caught:
            first_order(ring)
        self.assertEqual(caught.exception.ring, (0, 1, 2, 3))
        with self.assertRaises(NotTied) as caught:
            order_ending(path, (0, 1, 3))
        self.assertEqual(caught.exception.tie, (0, 3))


class LotExamplesTest(unittest.TestCase):

    def test_whole_lots(self):
        self.assertEqual(
            [whole_lots(path), whole_lots(fan), lots_with(star, 2), greatest_lot(fan), is_whole(fan, (0, 2))],
            [[(0, 1), (1, 2), (2, 3)], [(0, 1, 2), (0, 2, 3)], [(0, 2)], (0, 1, 2), False])
        self.assertEqual(
            [tied_counts(fan), tied_counts(ring), heads(fan, (1, 3, 2, 0))],
            [(1, 4, 5, 2), (1, 4, 4), (1, 3)])

    def test_partings(self):
        self.assertEqual(
            [is_parting(path, (1, 2), 0, 3), is_least_parting(path, (1, 2), 0, 3), partings_of(path, 0, 3),
             fewest_parting(ring, 0, 2)],
            [True, False, [(1,), (2,)], (1, 3)])
        self.assertEqual(
            [partings(ring), partings(star), full_pieces(star, (0,)), full_pieces(path, ()),
             least_in(path, (1, 2), 0, 3) in [(1,), (2,)]],
            [[(0, 2), (1, 3)], [(0,)], [(1,), (2,), (3,)], [(0, 1, 2, 3)], True])
        self.assertEqual(
            [is_crossing(ring, (0, 2), (1, 3)), first_crossing(ring), first_crossing(fan), part_counts(star),
             part_counts(path)],
            [True, ((0, 2), (1, 3)), None, [((0,), 2)], [((1,), 1), ((2,), 1)]])
        with self.assertRaises(NotParting) as caught:
            least_in(fan, (0,), 1, 3)
        self.assertEqual(caught.exception.way, (1, 2, 3))


class TreeExamplesTest(unittest.TestCase):

    def test_trees(self):
        self.assertEqual(
            [first_tree(path), tree_count(path), meets(path, ((0, 1), (1, 2))), way_meets(path, ((0, 1), (1, 2)), 0, 3)],
            [((0, 1), (1, 2)), 1, [(1,), (2,)], [(1,), (2,)]])
        self.assertEqual(
            [tree_count(star), trees(star), nth_tree(star, 1), tree_number(star, ((0, 2), (1, 2))), nth_tree(star, 3)],
            [3, [((0, 1), (0, 2)), ((0, 1), (1, 2)), ((0, 2), (1, 2))], ((0, 1), (1, 2)), 2, None])

    def test_branches_and_exchanges(self):
        self.assertEqual(
            [branches(star), fixed_branches(star), fixed_branches(fan), tree_exchanges(star, ((0, 1), (0, 2)))],
            [[(0, 1), (0, 2), (1, 2)], [], [(0, 1)], [((0, 1), (1, 2)), ((0, 2), (1, 2))]])
        self.assertEqual(
            [tree_exchanged(star, ((0, 1), (0, 2)), (0, 1), (1, 2)),
             tree_row(star, ((0, 1), (0, 2)), ((0, 2), (1, 2)))],
            [((0, 2), (1, 2)), [((0, 1), (1, 2))]])

    def test_trees_that_are_no_lot_trees(self):
        tree = ((0, 1), (0, 2), (1, 3))
        self.assertEqual([is_lot_tree(ring, tree), tree_sum(ring, tree), split_place(ring, tree)], [False, 3, 2])
        with self.assertRaises(NotLeaving) as caught:
            first_tree(ring)
        self.assertEqual(caught.exception.ring, (0, 1, 2, 3))
        with self.assertRaises(NotTree) as caught:
            tree_exchanges(path, ((0, 1), (0, 2)))
        self.assertEqual(caught.exception.place, 2)


class SubtreeExamplesTest(unittest.TestCase):

    def test_spreads(self):
        lots = ((0, 1), (0, 2), (0, 1, 2, 3), (3,), (1,))
        self.assertEqual(
            [is_host(star), is_spread(star, lots), is_spread(star, ((1, 2),)), web_text(web_of_spread(star, lots))],
            [True, True, False, "e:ab,ac,ae,bc,cd,ce"])
        self.assertEqual(
            [common_spots(star, lots, (0, 2)), common_spots(star, lots, (3, 4)), spanned(star, (1, 2)),
             across(star, lots, (0, 1)), beyond(star, lots, (0, 1))],
            [(0, 1), (), (0, 1, 2), (0, 2), ((1, 3), (4,))])
        self.assertEqual([order_from(star, lots, 0), order_from(star, lots, 1)], [(3, 4, 0, 1, 2), (3, 1, 0, 2, 4)])
        host, spread = trimmed(star, lots)
        self.assertEqual([web_text(host), spread], ["c:ab,ac", ((0, 1), (0,), (0, 1, 2), (2,), (1,))])
        self.assertEqual(
            [is_spread_of(web_told("c:ab,bc"), (web_told("b:ab"), ((0,), (0, 1), (1,)))),
             len(spread_of(web_told("c:ab,bc"))[1])],
            [True, 3])
        with self.assertRaises(NotLeaving) as caught:
            spread_of(web_told("d:ab,ad,bc,cd"))
        self.assertEqual(caught.exception.ring, (0, 1, 2, 3))


class OrderExamplesTest(unittest.TestCase):

    def test_orders_by_number(self):
        self.assertEqual(
            [order_count(path), nth_order(path, 0), nth_order(path, 7), nth_order(path, 8),
             order_number(path, (3, 0, 1, 2))],
            [8, (0, 1, 2, 3), (3, 2, 1, 0), None, 4])
        self.assertEqual(
            [next_order(path, (0, 1, 3, 2)), index_counts(path, 0), ahead_count(path, 0, 3)],
            [(0, 3, 1, 2), [4, 2, 1, 1], 4])

    def test_starts(self):
        self.assertEqual(
            [is_start(path, (0, 3)), is_start(path, (1,)), start_count(path), stay_over(path, (0, 2)),
             free_in(path, (0, 2)), stay_over(path, ())],
            [True, False, 11, (0, 1, 2), (0, 2), ()])
        self.assertEqual([order_staying(path, (0, 2)), swaps_of(path, (0, 1, 2, 3)), swapped(path, (0, 1, 2, 3), 2)],
                         [None, [2], (0, 1, 3, 2)])
        self.assertEqual(
            [fewest_swaps(path, (0, 1, 2, 3), (3, 2, 1, 0)),
             is_swap_row(path, (0, 1, 2, 3), (0, 3, 1, 2), [2, 1]),
             is_swap_row(path, (0, 1, 2, 3), (0, 1, 2, 3), [])],
            [6, True, True])


class DyeExamplesTest(unittest.TestCase):

    def test_dyeings(self):
        self.assertEqual(
            [dyeing_count(path, 2), dyeing_count(path, 3), fewest_dyes(path), later_counts(path), direction_count(path)],
            [2, 24, 2, (0, 1, 1, 1), 8])
        self.assertEqual(
            [later_counts(palm), dyeing_count(palm, 3), dyeing_count(palm, 2), first_dyeing(palm, 3),
             first_dyeing(palm, 2)],
            [(0, 1, 2, 2, 2), 6, 0, (0, 1, 2, 1, 2), None])
        self.assertEqual(
            [dyed_back(path, (0, 1, 2, 3)), dyed_back(path, (0, 3, 1, 2)), is_dyeing(path, 2, (0, 1, 0, 1)),
             is_dyeing(path, 2, [0, 1, 0, 1])],
            [(1, 0, 1, 0), (0, 1, 0, 1), True, False])
        self.assertEqual(
            [exchanged(path, 3, (0, 1, 0, 2), 1, 2), exchanged(path, 3, (0, 1, 0, 2), 1, 0),
             exchange_row(path, 3, (0, 1, 0, 1), (0, 1, 0, 1))],
            [(0, 2, 0, 2), (1, 0, 1, 2), []])
        self.assertIs(is_exchange_row(path, 2, (0, 1, 0, 1), (1, 0, 1, 0), [(3, 0)]), True)
        with self.assertRaises(NotLeaving) as caught:
            fewest_dyes(ring)
        self.assertEqual(caught.exception.ring, (0, 1, 2, 3))

    def test_covers(self):
        self.assertEqual(
            [apart_counts(path), most_apart(palm), nth_apart(path, 6), nth_apart(path, 8), apart_number(path, (0, 3))],
            [[1, 4, 3], 2, (0, 3), None, 6])
        self.assertEqual(
            [whole_lots(path), is_apart_paper(path, apart_paper(path)), is_apart_paper(path, ((0, 3), (0, 2))),
             is_apart_paper(path, ((0, 2), (0, 1, 2)))],
            [[(0, 1), (1, 2), (2, 3)], True, True, False])
        self.assertEqual(
            [heaviest_apart(path, (2, 5, 4, 1)), is_weight_paper(path, (2, 5, 4, 1), ((0, 2), (2, 3, 1))),
             fewest_cover(palm)],
            [6, True, 2])
        self.assertEqual([apart_along(path, (0, 1, 2, 3)), apart_along(palm, (1, 4, 0, 2, 3))], [(0, 2), (1, 4)])
        with self.assertRaises(NotApart) as caught:
            apart_number(path, (0, 1, 2))
        self.assertEqual(caught.exception.tie, (0, 1))


class FillingExamplesTest(unittest.TestCase):

    def test_fillings(self):
        self.assertEqual(
            [least_fillings(square), len(least_fillings(five)), fewest_count(five), filling_by(square, (0, 1, 2, 3)),
             is_filling(square, ())],
            [[((0, 2),), ((1, 3),)], 5, 2, ((1, 3),), False])
        self.assertEqual(
            [spare_ties(square, ((0, 2), (1, 3))), is_least_filling(square, ((0, 2), (1, 3))),
             is_crossing(square, (0, 2), (1, 3))],
            [[(0, 2), (1, 3)], False, True])
        self.assertEqual(
            [lots_of_filling(square, ((0, 2),)), filling_by_lots(square, ((0, 2), (1,))),
             is_greatest_calm(square, ((1, 3),)), is_calm(square, ((0, 2), (1, 3)))],
            [((0, 2),), ((0, 2),), True, False])
        with self.assertRaises(NotFilling) as caught:
            spare_ties(five, ((0, 2),))
        self.assertEqual(caught.exception.ring, (0, 2, 3, 4))

    def test_widths(self):
        self.assertEqual(
            [width(square), width(five), width_by(square, (0, 1, 2, 3)), width(web_told("c:")),
             width(web_told("d:ab,ac,ad"))],
            [2, 2, 2, 0, 1])
        self.assertEqual(
            [is_thicket(square, ((0,), (1,), (2, 3))), thicket_order(square, ((0,), (1,), (2, 3))),
             meeting_lot(square, ((0,), (1,), (2, 3)))],
            [True, 3, (0, 1, 2)])
        self.assertEqual([is_thicket(square, ((0,), (2,))), thicket_order(five, widest_thicket(five))], [False, 3])


class LineExamplesTest(unittest.TestCase):

    def test_stretches(self):
        long = web_told("g:ab,ac,ad,be,cf,dg")
        self.assertEqual(
            [stretches(path), lot_row_count(path), line_order_count(path), nth_lot_row(path, 1), nth_line_order(path, 1)],
            [((0, 0), (0, 1), (1, 2), (2, 2)), 2, 4, (2, 1, 0), (1, 0, 2, 3)])
        self.assertEqual(
            [apart_three(long), claw(star), web_text(web_of_stretches(((0, 2), (1, 3), (3, 3))))],
            [(4, 5, 6), (0, (1, 2, 3)), "c:ab,bc"])
        with self.assertRaises(NotLeaving) as caught:
            stretches(ring)
        self.assertEqual(caught.exception.ring, (0, 1, 2, 3))
        with self.assertRaises(NotEven) as caught:
            even_order(star)
        self.assertEqual(caught.exception.claw, (0, (1, 2, 3)))

    def test_tables(self):
        two, fam = web_told("c:ab,bc"), ((1, 1, 0, 2), (1, 0, 0, 3))
        self.assertEqual(
            [whole_table(two, fam), heaviest_row(two, fam)],
            [((1, 1), (0, 1), (0, 1), (1, 1), (0, 1), (0, 1), (0, 1), (2, 1)), (1, 1, 1)])
        self.assertEqual(
            [clash(two, fam), clash(two, ((1, 1, 0, 2), (1, 1, 1, 1))), sums_within(two, fam, (0, 2)),
             weight_at(two, fam, (1, 1, 1))],
            [None, (0, 1), ((1, 1), (1, 1), (0, 1), (2, 1)), (2, 1)])


class JoiningExamplesTest(unittest.TestCase):

    def test_webs_put_together(self):
        self.assertEqual(web_text(glued(web_told("c:ab,bc"), web_told("c:ab,ac,bc"), (1, 2), (0, 1))), "d:ab,bc,bd,cd")
        self.assertEqual(
            [web_text(put_in(web_told("c:ab,bc"), 1, web_told("b:"))), web_text(drawn(ring, (0, 1)))],
            ["d:ac,ad,bc,bd", "c:ab,ac,bc"])
        self.assertEqual(
            [web_text(power(web_told("d:ab,bc,cd"), 2)), web_text(with_place(web_told("b:"), (0, 1)))],
            ["d:ab,ac,bc,bd,cd", "c:ac,bc"])
        self.assertEqual(
            [firm_lots(web_told("f:ab,ad,bc,cd,de,df")), is_firm(ring, (0, 1)), is_firm(ring, (0, 1, 2)), is_firm(ring, ())],
            [[(0, 1, 2, 3), (3, 4), (3, 5)], True, False, False])
        with self.assertRaises(NotTied) as caught:
            glued(ring, ring, (0, 1, 2), (0, 1, 2))
        self.assertEqual(caught.exception.tie, (0, 2))


class LiveExamplesTest(unittest.TestCase):

    def test_live(self):
        live = Live(ring)
        self.assertEqual(
            [live.row, live.put_in, live.puts(), live.widths(), live.leavings(), live.lots()],
            [(0, 1, 2, 3), ((1, 3),), [1], [2], [False], [(0, 1, 3), (1, 2, 3)]])
        with self.assertRaises(NotLeaving) as caught:
            live.clear()
        self.assertEqual(caught.exception.ring, (0, 1, 2, 3))
        self.assertEqual(
            [live.tie(0, 2), live.put_in, live.would(("untie", 0, 1)), live.ease(), live.row, live.puts(),
             live.leavings()],
            [None, ((1, 3),), (0, 2, True), 1, (1, 0, 2, 3), [1, 1, 0], [False, True, True]])
        self.assertEqual(
            [live.come((1, 3)), live.row, live.put_in, live.undo(), live.next_mark],
            [4, (4, 1, 0, 2, 3), ((1, 3),), ("come", (1, 3)), 4])

    def test_leaving_live(self):
        kept = LeavingLive(web_told("d:ab,bc,cd"))
        with self.assertRaises(NotLeaving) as caught:
            kept.tie(0, 3)
        self.assertEqual(caught.exception.ring, (0, 1, 2, 3))
        self.assertEqual(
            [kept.tie(0, 2), kept.row, kept.move(3, 0), kept.row, kept.deeds],
            [None, (0, 1, 2, 3), None, (3, 0, 1, 2), [("tie", 0, 2), ("move", 3, 0)]])
        with self.assertRaises(Refused):
            kept.move(2, 0)

    def test_papers(self):
        self.assertEqual(
            [paper_text(("order", web_told("c:ab,bc"), (0, 2, 1))), paper_told("r;d:ab,ad,bc,cd;abcd")],
            ["o;c:ab,bc;acb", ("ring", (4, ((0, 1), (0, 3), (1, 2), (2, 3))), (0, 1, 2, 3))])
        self.assertEqual(
            [paper_text(("filling", ring, ((0, 2),))), paper_told("a;c:ab,bc;ac;ab,bc")],
            ["f;d:ab,ad,bc,cd;ac", ("apart", (3, ((0, 1), (1, 2))), (0, 2), ((0, 1), (1, 2)))])
        with self.assertRaises(NotShown) as caught:
            paper_told("o;c:ab,bc;bac")
        self.assertEqual(caught.exception.count, 0)
        for text, index in (("o;c:ab,bc;aa", 11), ("r;c:ab,bc;", 2), ("r;d:ab,ad,bc,cd;adcb", 17)):
            with self.assertRaises(InvalidText) as caught:
                paper_told(text)
            self.assertEqual(caught.exception.index, index)

    def test_console(self):
        console = Console()
        self.assertEqual(
            console.execute("run web a d:ab,ad,bc,cd; tie 0 2; filled; ease; row; lots; leavings; journal"),
            "ok; ok; 1-3; 1; 1 0 2 3; 0+1+2 0+2+3; no yes yes; web a d:ab,ad,bc,cd; tie 0 2; ease")
        self.assertEqual(
            [console.execute("paper"), console.execute("undo"), console.execute("come 1 3"), console.execute("filled")],
            ["o;d:ab,ac,ad,bc,cd;bacd", "ease", "4", "1-3"])
        with self.assertRaises(NotLeaving) as caught:
            console.execute("leaving b d:ab,ad,bc,cd")
        self.assertEqual(caught.exception.ring, (0, 1, 2, 3))


if __name__ == "__main__":
    unittest.main()

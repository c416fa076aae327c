"""[3]: calls end within some seconds for webs of 12 places, too; what is told has at most 3,000 parts."""

import time
import unittest
from itertools import combinations
from math import gcd

from leaveorder import (bare_rounds, covers, dyes, fillings, joining, leaving, lot_trees, orders, paper_texts, partings,
                        starts, stretches, subtrees, swaps, tables, webs, whole_lots, widths)
from leaveorder.console import Console
from leaveorder.errors import LeaveError
from leaveorder.live import LeavingLive, Live, replay
from tests.at_hand import (BIG, bare_web, leaving_webs, pairs, parted_web, path_web, some_hosts, some_spread, star_web,
                           tied_twice, two_sided_web, webs_of_twelve)

MOST_SECONDS = 2

OF_A_WEB = (
    webs.pieces, webs.mirrored, webs.web_text, bare_rounds.bare_ring, bare_rounds.least_bare, bare_rounds.rest,
    bare_rounds.least_stuck, leaving.may_leave, leaving.is_leaving, leaving.first_order, whole_lots.whole_lots,
    whole_lots.greatest_lot, whole_lots.tied_counts, partings.partings, partings.first_crossing, partings.part_counts,
    lot_trees.first_tree, lot_trees.tree_count, lot_trees.trees, lot_trees.branches, lot_trees.fixed_branches,
    subtrees.spread_of, orders.order_count, starts.start_count, starts.starts, dyes.fewest_dyes, dyes.later_counts,
    dyes.direction_count, covers.apart_counts, covers.most_apart, covers.apart_paper, covers.fewest_cover,
    fillings.fewest_count, fillings.fewest_filling, fillings.least_fillings, widths.width, widths.least_width_row,
    widths.widest_thicket, stretches.apart_three, stretches.claw, stretches.stretches, stretches.lot_row_count,
    stretches.line_order_count, stretches.even_order, tables.torn_family, tables.torn_denial,
    joining.firm_lots,
)
EVERY = tuple(range(12))
OF_A_LOT = (webs.is_tied, webs.pieces, webs.inner, bare_rounds.rest_among, leaving.may_leave, leaving.order_ending,
            whole_lots.is_whole, partings.full_pieces, starts.is_start, starts.stay_over, starts.free_in,
            starts.order_staying, covers.apart_number, joining.is_firm)
OF_A_TREE = (lot_trees.is_lot_tree, lot_trees.meets, lot_trees.tree_sum, lot_trees.split_place, lot_trees.tree_number,
             lot_trees.tree_exchanges)


def close_web(count, size):
    """Places in a row, each tied with all that are less than so many steps away."""
    return (count, tuple((x, y) for x, y in pairs(count) if y - x < size))


def parts(value):
    """The number of parts of what is told, all in all."""
    return 1 + sum(parts(part) for part in value) if isinstance(value, (tuple, list)) else 1


class TimeTest(unittest.TestCase):

    def asked(self, function, *arguments):
        """What the function tells, or the error that it raises, within the time."""
        begun = time.monotonic()
        try:
            told = function(*arguments)
        except LeaveError as error:
            told = error
        self.assertLess(time.monotonic() - begun, MOST_SECONDS, (function.__name__, arguments))
        return told

    def test_webs_lots_and_places(self):
        for web in webs_of_twelve():
            for function in OF_A_WEB:
                self.asked(function, web)
            for lot in ((), (0, 3, 5, 8, 11), EVERY):
                for function in OF_A_LOT:
                    self.asked(function, web, lot)
                self.asked(partings.is_crossing, web, lot, EVERY[::2])
                for function in (partings.is_parting, partings.is_least_parting, partings.least_in):
                    self.asked(function, web, lot, 1, 10)
            for function in (leaving.later_neighbours, leaving.first_hitch):
                self.asked(function, web, EVERY)
            for x, y in pairs(12)[::7]:
                self.asked(partings.partings_of, web, x, y)
                self.asked(partings.fewest_parting, web, y, x)
                self.asked(whole_lots.lots_with, web, x)
            for tie in web[1][::9]:
                self.asked(bare_rounds.bare_through, web, tie)

    def test_trees(self):
        for web in webs_of_twelve():
            many = len(whole_lots.whole_lots(web))
            rows = [tuple((at, at + 1) for at in range(many - 1)), tuple((0, at) for at in range(1, many))]
            rows.append(tuple(sorted((at // 2, at) for at in range(1, many))))
            if leaving.is_leaving(web):
                count = lot_trees.tree_count(web)
                rows += [self.asked(lot_trees.nth_tree, web, number) for number in (0, count // 2, count - 1)]
            for tree in rows:
                for function in OF_A_TREE:
                    self.asked(function, web, tree)
                self.asked(lot_trees.way_meets, web, tree, 2, 9)
                self.asked(lot_trees.tree_exchanged, web, tree, (0, 1), (0, 1))
                for other in rows:
                    told = self.asked(lot_trees.tree_row, web, tree, other)
                    if type(told) is list:
                        self.assertLessEqual(parts(told), 3000)
                    self.asked(lot_trees.is_tree_row, web, tree, other, told)

    def test_orders(self):
        for web in webs_of_twelve():
            count = self.asked(orders.order_count, web)
            for number in (0, count // 2, max(0, count - 1)):
                order = self.asked(orders.nth_order, web, number)
                if order is not None:
                    self.assertEqual(self.asked(orders.order_number, web, order), number)
                    self.asked(orders.next_order, web, order)
            self.asked(orders.index_counts, web, 7)
            self.asked(orders.ahead_count, web, 7, 3)

    def test_swaps_and_dyes(self):
        for web in webs_of_twelve():
            for number in (2, 5, 1000):
                self.asked(dyes.dyeing_count, web, number)
                self.asked(dyes.first_dyeing, web, number)
                self.asked(dyes.nth_dyeing, web, number, 10 ** 30 // 7)
            if not leaving.is_leaving(web):
                continue
            order, other = orders.nth_order(web, 0), orders.nth_order(web, orders.order_count(web) - 1)
            for function in (swaps.swap_row, swaps.fewest_swaps):
                self.asked(function, web, order, other)
            there, back = swaps.swap_row(web, order, other), swaps.swap_row(web, other, order)
            row = (there + back) * (2998 // max(1, len(there + back)))
            self.assertIs(self.asked(swaps.is_swap_row, web, order, order, row), True)
            few = dyes.fewest_dyes(web)
            for many in (few, 1000):
                count = dyes.dyeing_count(web, many)
                first, last = [self.asked(dyes.nth_dyeing, web, many, number) for number in (0, count - 1)]
                there = self.asked(dyes.exchange_row, web, many, first, last)
                back = self.asked(dyes.exchange_row, web, many, last, first)
                self.asked(dyes.dyeing_number, web, many, last)
                row = (there + back) * (900 // max(1, len(there + back)))
                self.assertIs(self.asked(dyes.is_exchange_row, web, many, first, first, row), True)

    def test_covers_and_fillings(self):
        for web in webs_of_twelve():
            weights = tuple(x * x * 7919 % 1000001 for x in range(web[0]))
            self.asked(covers.heaviest_apart, web, weights)
            paper = self.asked(covers.weight_paper, web, weights)
            self.asked(covers.is_weight_paper, web, weights, paper)
            self.asked(covers.is_cover, web, tuple(range(len(whole_lots.whole_lots(web)))))
            self.asked(covers.nth_apart, web, 500)
            every = tuple(sorted(partings.partings(web)))
            for row in (every[:200], every[:1], every[:3], ()):
                self.asked(fillings.is_calm, web, row)
                self.asked(fillings.is_greatest_calm, web, row)
                self.asked(fillings.filling_by_lots, web, row)
            missing = fillings.filled(web, ()) and webs.mirrored(web)[1]
            for function in (fillings.spare_ties, fillings.least_within, fillings.row_for, fillings.lots_of_filling,
                             fillings.is_least_filling):
                self.asked(function, web, missing)
                self.asked(function, web, missing[:20])

    def test_lines(self):
        for web in webs_of_twelve():
            for number in (0, 1000, BIG):
                row = self.asked(stretches.nth_lot_row, web, number)
                if row is not None:
                    self.asked(stretches.row_stretches, web, row)
                self.asked(stretches.nth_line_order, web, number)
            self.asked(widths.width_by, web, tuple(range(web[0])))
            for lot in ((0, 4, 9), (1, 5, 10), (2, 6, 8)):
                ways = self.asked(stretches.apart_ways, web, lot)
                self.asked(stretches.is_apart_ways, web, lot, ways)
            self.asked(stretches.is_line_order, web, tuple(range(web[0])))
            self.asked(stretches.is_lot_row, web, tuple(range(len(whole_lots.whole_lots(web)))))

    def test_tables(self):
        # The most parts of a family that agrees, and unlike sums everywhere.
        for web in [path_web(12), star_web(12), bare_web(12), *leaving_webs(12, 12, 140), close_web(12, 6), close_web(12, 8)]:
            every = tuple(range(12))
            wholes = whole_lots.whole_lots(web)
            if sum(1 + (1 << len(lot)) for lot in wholes) > 3000:
                continue
            entries = [number * number * 7919 % 244 for number in range(4096)]
            family = tuple(tables.sums_of(entries, every, lot) for lot in wholes)
            self.asked(tables.clash, web, family)
            self.asked(tables.weight_at, web, family, (1, 0) * 6)
            self.asked(tables.heaviest_row, web, family)
            for lot in ((), (3,), (0, 2, 4, 6, 8, 10), (6, 7, 8, 9, 10, 11)):
                self.asked(tables.sums_within, web, family, lot)

    def test_whole_tables_and_denials(self):
        for web in [parted_web(8, 3), parted_web(8, 2), tied_twice(bare_web(4), bare_web(4)), *leaving_webs(8, 6, 141)]:
            family = tables.family_of(web, tuple(number * 7919 % 1001 for number in range(256)))
            self.asked(tables.whole_table, web, family)
            value = tuple((10 ** 88 + number, 10 ** 88 - 3 * number) for number in range(256))
            self.asked(tables.is_whole_table, web, family, tuple(self.lowest(*part) for part in value))
        for web in (parted_web(12, 3), two_sided_web(12), parted_web(12, 2)):
            wholes = whole_lots.whole_lots(web)
            family = tuple((1,) * (1 << len(lot)) for lot in wholes)
            self.asked(tables.clash, web, family)
            self.asked(tables.is_denial, web, family, tuple((BIG,) * (1 << len(lot)) for lot in wholes))
        for web in (two_sided_web(8), parted_web(8, 2)):
            self.asked(widths.widest_thicket, web)

    def lowest(self, top, bottom):
        common = gcd(top, bottom)
        return (top // common, bottom // common)

    def test_thickets(self):
        many = [lot for size in (1, 2, 3, 4) for lot in combinations(range(12), size)]
        for web in webs_of_twelve()[::6]:
            for value in (tuple(sorted(many))[:600], tuple(sorted(many, reverse=True))[:600][::-1]):
                if self.asked(widths.is_thicket, web, value):
                    self.asked(widths.meeting_lot, web, value)

    def test_live_webs(self):
        for web in webs_of_twelve()[::2]:
            for kind in (Live, LeavingLive) if leaving.is_leaving(web) else (Live,):
                live = self.asked(kind, web)
                for _ in range(12):
                    self.asked(live.begin)
                for at in range(60):
                    self.asked(live.would, ("ease",))
                    self.asked(live.would, ("clear",))
                    marks = live.marks
                    deed = ("move", marks[at * 7 % len(marks)], at * 5 % len(marks))
                    if at % 3 == 1:
                        deed = ("leave", marks[at * 5 % len(marks)])
                    elif at % 3 == 2:
                        deed = ("come", marks[:at % 4])
                    self.asked(getattr(live, deed[0]), *deed[1:])
                self.asked(live.ease)
                for function in (live.puts, live.widths, live.leavings, live.lots, live.twin):
                    self.asked(function)
                again = self.asked(replay, web, live.deeds)
                self.assertEqual(again.start, web)
                for _ in range(12):
                    self.asked(live.drop)

    def test_consoles(self):
        console = Console()
        for name in ("a", "b", "c", "d", "e", "f", "g", "h"):
            self.asked(console.execute, f"web {name} {webs.web_text(two_sided_web(12))}")
            for _ in range(3):
                self.asked(console.execute, "run " + "; ".join(["move 0 9", "move 9 0"] * 10))
        for _ in range(2):
            self.asked(console.execute, "run " + "; ".join(["puts", "widths", "leavings", "lots", "journal", "paper"] * 10))
        self.asked(console.execute, "run " + "; ".join(["ease"] + ["twin a", "use b", "same a", "where"] * 15 + ["leave 99"]))

    def test_papers(self):
        for web in webs_of_twelve()[::3]:
            papers = [("filling", web, self.asked(fillings.fewest_filling, web))]
            if leaving.is_leaving(web):
                papers.append(("order", web, leaving.first_order(web)))
            else:
                papers.append(("ring", web, bare_rounds.bare_ring(web)))
            for paper in papers:
                self.asked(paper_texts.is_paper, paper)
                text = self.asked(paper_texts.paper_text, paper)
                self.assertEqual(self.asked(paper_texts.paper_told, text), paper)
        for text in ("a;l:;abcdefghijkl;" + ",".join("abcdefghijkl"), "a;l:;a;" + "a," * 9000, "o;l:;" + "a" * 19000,
                     "f;l:;" + "ab," * 6000, "r;l:;" + "abcdefghijkl" * 1500, "a;l:;" + "abc" * 6000):
            self.asked(paper_texts.paper_told, text)

    def test_hosts(self):
        for host in [path_web(12), star_web(12), *some_hosts(12, 6, 90)]:
            for spread in (some_spread(host, 12, 91), tuple((x,) for x in range(12)), (tuple(range(12)),) * 12):
                for function in (subtrees.is_spread, subtrees.web_of_spread, subtrees.trimmed):
                    self.asked(function, host, spread)
                self.asked(subtrees.common_spots, host, spread, EVERY)
                self.asked(subtrees.order_from, host, spread, 11)
                for function in (subtrees.across, subtrees.beyond):
                    self.asked(function, host, spread, host[1][5])
                self.asked(subtrees.is_spread_of, subtrees.web_of_spread(host, spread), (host, spread))
            self.asked(subtrees.spanned, host, (0, 4, 11))

    def test_a_long_row_of_exchanges(self):
        star = (12, tuple((0, x) for x in range(1, 12)))
        tree, other = lot_trees.first_tree(star), lot_trees.nth_tree(star, 11 ** 9 - 1)
        there, back = lot_trees.tree_row(star, tree, other), lot_trees.tree_row(star, other, tree)
        row = (there + back) * 20
        self.assertGreater(parts(row), 2000)
        self.assertIs(self.asked(lot_trees.is_tree_row, star, tree, tree, row), True)

    def test_free_results_have_few_parts(self):
        for web in webs_of_twelve():
            for function, arguments in ((bare_rounds.bare_ring, ()), (leaving.first_order, ()), (subtrees.spread_of, ()),
                                        (covers.apart_paper, ()), (fillings.fewest_filling, ()),
                                        (widths.least_width_row, ()), (stretches.apart_ways, ((0, 4, 8),)),
                                        (partings.least_in, ((2, 3, 4, 5), 0, 11)), (partings.least_in, ((), 0, 11))):
                told = self.asked(function, web, *arguments)
                value = list(vars(told).values()) if isinstance(told, LeaveError) else told
                self.assertLessEqual(parts(value), 3000)


if __name__ == "__main__":
    unittest.main()

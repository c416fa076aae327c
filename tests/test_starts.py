"""[24], F3, F4: starts and stays."""

import unittest

from leaveorder.bare_rounds import is_bare
from leaveorder.errors import NotLeaving, TooMany
from leaveorder.leaving import is_leaving, may_leave, order_ending
from leaveorder.orders import order_count
from leaveorder.starts import free_in, is_start, order_staying, start_count, starts, stay_over
from leaveorder.webs import beside, is_tied
from tests import lot_oracle, oracle
from tests.at_hand import (all_webs, bare_web, block_web, full_web, leaving_webs, lots, path_web, ring_web, some_webs,
                           star_web, two_sided_web, webs_of_twelve)


def cases():
    webs = [web for count in (1, 2, 3, 4) for web in all_webs(count)] + all_webs(5)[::25] + some_webs(6, 3, 70)
    webs = [web for web in webs if is_leaving(web)]
    return webs + leaving_webs(6, 8, 71) + [bare_web(6), full_web(6), path_web(6), star_web(6), block_web(6, 3)]


def others(web, lot):
    return tuple(place for place in range(web[0]) if place not in lot)


def plain_starts(found):
    """All starts, by the leaving orders."""
    return {tuple(sorted(order[:at])) for order in found for at in range(len(order) + 1)}


def over_ways(web, lot):
    """The lot, with all places on bare ways between two of its places, and on those between these, and so on."""
    held = set(lot)
    while True:
        ways = [(x,) for x in held]
        for way in ways:
            for y in oracle.near(web, way[-1]):
                if y not in way and not any(oracle.tied(web, x, y) for x in way[:-1]):
                    ways.append((*way, y))
        wider = held | {x for way in ways if way[-1] in held for x in way}
        if wider == held:
            return tuple(sorted(held))
        held = wider


class StartsTest(unittest.TestCase):

    def test_against_all_orders(self):
        for web in cases():
            found = lot_oracle.orders(web)
            told = plain_starts(found)
            self.assertEqual(start_count(web), len(told))
            self.assertEqual(starts(web), [lot for lot in lots(web[0]) if lot in told])
            stays = [lot for lot in lots(web[0]) if others(web, lot) in told]
            for lot in lots(web[0]):
                self.assertIs(is_start(web, lot), lot in told)
                over = [stay for stay in stays if set(lot) <= set(stay)]
                self.assertEqual(stay_over(web, lot), over[0])
                self.assertTrue(all(set(over[0]) <= set(stay) for stay in over))
                self.assertEqual(free_in(web, lot), tuple(oracle.leavers_among(web, over[0])))
                ending = [row for row in found if set(row[web[0] - len(lot):]) == set(lot)]
                self.assertEqual(order_staying(web, lot), ending[0] if lot in stays else None, (web, lot))

    def test_webs_that_cannot_be_left(self):
        webs = [ring_web(4), ring_web(12), two_sided_web(10), beside(ring_web(5), bare_web(7))]
        for web in webs:
            for lot in ((), (0,), (0, 1), tuple(range(web[0]))):
                self.assertIs(is_start(web, lot), False)
            for function, more in ((start_count, ()), (starts, ()), (stay_over, ((),)), (free_in, ((0,),)),
                                   (order_staying, ((0, 1, 2),))):
                with self.assertRaises(NotLeaving) as caught:
                    function(web, *more)
                self.assertIs(is_bare(web, caught.exception.ring), True)

    def test_too_many(self):
        for web in (bare_web(9), full_web(9), path_web(12)):
            with self.assertRaises(TooMany) as caught:
                starts(web)
            self.assertEqual(caught.exception.count, 8)
        self.assertEqual([len(starts(bare_web(8))), len(starts(full_web(8)))], [256, 256])

    def test_edges(self):
        self.assertEqual([starts(bare_web(1)), start_count(bare_web(1))], [[(), (0,)], 2])
        self.assertEqual([is_start(bare_web(1), ()), is_start(bare_web(1), (0,))], [True, True])
        self.assertEqual([stay_over(bare_web(1), ()), stay_over(bare_web(1), (0,)), free_in(bare_web(1), ())],
                         [(), (0,), ()])
        self.assertEqual([order_staying(bare_web(1), ()), order_staying(bare_web(1), (0,))], [(0,), (0,)])
        self.assertEqual([start_count(bare_web(12)), start_count(full_web(12)), start_count(star_web(12))],
                         [2 ** 12, 2 ** 12, 2 ** 11 + 12])
        self.assertEqual(start_count(path_web(12)), 79)
        self.assertEqual([stay_over(path_web(12), (0, 11)), free_in(path_web(12), (0, 5, 11))],
                         [tuple(range(12)), (0, 11)])
        self.assertEqual(order_staying(path_web(12), (3, 4, 5)), (0, 1, 2, 11, 10, 9, 8, 7, 6, 3, 4, 5))
        self.assertEqual(order_staying(full_web(12), (3, 4)), (0, 1, 2, *range(5, 12), 3, 4))

    def test_webs_of_twelve(self):
        for web in webs_of_twelve():
            if not is_leaving(web):
                continue
            for lot in ((), (0,), (0, 11), (1, 4, 6), (0, 3, 5, 8, 11), tuple(range(12))):
                stay = stay_over(web, lot)
                self.assertEqual(stay, over_ways(web, lot))
                self.assertEqual(stay_over(web, free_in(web, lot)), stay)
                self.assertIs(is_start(web, others(web, stay)), True)
                order = order_staying(web, stay)
                self.assertTrue(lot_oracle.is_leaving_row(web, order))
                self.assertEqual(set(order[12 - len(stay):]), set(stay))
                self.assertEqual(order_staying(web, lot), order if stay == lot else None)


class FactsTest(unittest.TestCase):

    def test_what_starts_have_together(self):
        for web in cases()[::2]:
            told = starts(web)
            for lot in told:
                for other in told[::2]:
                    self.assertIs(is_start(web, tuple(sorted({*lot, *other}))), True)
                    common = tuple(place for place in others(web, lot) if place not in other)
                    self.assertEqual(stay_over(web, common), common)

    def test_who_may_leave_behind_a_start(self):
        for web in cases():
            told = starts(web)
            for lot in told:
                for place in others(web, lot):
                    free = place in may_leave(web, lot)
                    self.assertIs(free, tuple(sorted((*lot, place))) in told)
                    if free:
                        self.assertTrue(all(place in may_leave(web, tuple(sorted({*lot, *other})))
                                            for other in told if place not in other))

    def test_the_starts_count_the_orders(self):
        for web in cases() + leaving_webs(8, 6, 72):
            ways = {(): 1}
            for lot in starts(web)[1:]:
                ways[lot] = sum(ways.get(tuple(x for x in lot if x != place), 0) for place in lot
                                if place in may_leave(web, tuple(x for x in lot if x != place)))
            self.assertEqual(ways[tuple(range(web[0]))], order_count(web))

    def test_stays_by_bare_ways(self):
        for web in cases():
            for lot in lots(web[0]):
                stay = stay_over(web, lot)
                self.assertEqual(stay, over_ways(web, lot))
                free = free_in(web, lot)
                self.assertTrue(set(free) <= set(lot))
                self.assertEqual(stay_over(web, free), stay)
                if not is_tied(web, stay):
                    self.assertIs(is_tied(web, free), False)
                if is_tied(web, lot):
                    self.assertEqual(stay, lot)
                    self.assertEqual(order_staying(web, lot), order_ending(web, lot))


if __name__ == "__main__":
    unittest.main()

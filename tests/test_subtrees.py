"""[21], [22], E1 to E6: hosts, spreads, and what they tell of the web."""

import unittest
from itertools import combinations, permutations

from leaveorder.bare_rounds import is_bare
from leaveorder.errors import InvalidHost, InvalidLot, NotLeaving
from leaveorder.leaving import is_leaving
from leaveorder.partings import is_parting
from leaveorder.subtrees import (across, beyond, common_spots, is_host, is_spread, is_spread_of, order_from, spanned,
                                 spread_of, trimmed, web_of_spread)
from leaveorder.webs import beside
from tests import lot_oracle, oracle
from tests.at_hand import (BIG, ODD_VALUES, all_hosts, all_webs, bare_web, block_web, deep, full_web, large_webs,
                           leaving_webs, lots, parted_web, path_web, ring_web, small_webs, some_hosts, some_spread,
                           star_web, webs_of_twelve)


def cases():
    """Hosts of 1 to 12 spots, with spreads of 1 to 12 lots."""
    hosts = [host for count in (1, 2, 3, 4) for host in all_hosts(count)]
    for count in range(5, 13):
        hosts += some_hosts(count, 4, 50)
    return [(host, some_spread(host, places, 51)) for host in hosts for places in (1, 2, 4, 6, 12)]


def way_between(host, x, y):
    """The only way in the host between the two spots."""
    ways = [(x,)]
    for way in ways:
        if way[-1] == y:
            return way
        ways += [(*way, z) for z in oracle.near(host, way[-1]) if z not in way]


def side_of(host, end, other):
    """The spots that are reached from the end without the tie of the two."""
    ties = tuple(tie for tie in host[1] if tie != (min(end, other), max(end, other)))
    return [piece for piece in oracle.pieces((host[0], ties), ()) if end in piece][0]


def by_number(web):
    """The sequence of all_webs."""
    return [tie in web[1] for tie in reversed(list(combinations(range(web[0]), 2)))]


class HostsTest(unittest.TestCase):

    def test_all_webs(self):
        for count in (1, 2, 3, 4, 5):
            for web in all_webs(count):
                tree = len(web[1]) == count - 1 and len(oracle.pieces(web, ())) == 1
                self.assertIs(is_host(web), tree)
            self.assertEqual([web for web in all_webs(count) if is_host(web)], sorted(all_hosts(count), key=by_number))

    def test_edges(self):
        self.assertEqual([is_host(web) for web in (bare_web(1), path_web(12), star_web(12), bare_web(2), ring_web(12))],
                         [True, True, True, False, False])
        for value in [*ODD_VALUES, (1, []), [1, ()], (True, ()), (1,), (13, path_web(12)[1] + ((11, 12),))]:
            self.assertIs(is_host(value), False, value)

    def test_spreads(self):
        for host in [host for count in (1, 2, 3, 4) for host in all_hosts(count)] + some_hosts(6, 3, 52):
            for lot in lots(host[0]):
                self.assertIs(is_spread(host, (lot,)), oracle.joined(host, lot), (host, lot))
                self.assertIs(is_spread(host, ((0,), lot, (0,))), oracle.joined(host, lot))
                self.assertIs(is_spread(host, (lot[::-1],)), len(lot) == 1)
        for value in [*ODD_VALUES, (), [(0,)], ((),), ((0,),) * 13, ((0,), ()), ((0,), [1]), ((BIG,),), ((0, 12),),
                      ((0, deep(list)),), (((0,),),), ((0, 0),), ((True,),), ((0,), None)]:
            self.assertIs(is_spread(path_web(12), value), False, value)
        self.assertIs(is_spread(path_web(12), ((0,),) * 12), True)
        self.assertIs(is_spread(bare_web(1), ((0,),) * 12), True)

    def test_a_web_that_is_no_host(self):
        for function, more in ((is_spread, ((0,),)), (web_of_spread, (((0,),),)), (spanned, ((0,),)),
                               (across, (((0,),), (0, 1))), (trimmed, (((0,),),)), (common_spots, (((0,),), (0,)))):
            for web in (bare_web(2), ring_web(4), full_web(3), block_web(6, 3), (5, ())):
                with self.assertRaises(InvalidHost):
                    function(web, *more)


class WebsTest(unittest.TestCase):

    def test_the_web_of_a_spread(self):
        for host, spread in cases():
            web = web_of_spread(host, spread)
            ties = tuple((x, y) for x, y in combinations(range(len(spread)), 2) if set(spread[x]) & set(spread[y]))
            self.assertEqual(web, (len(spread), ties))
            self.assertIs(is_leaving(web), True)
            self.assertIs(is_spread_of(web, (host, spread)), True)

    def test_spread_of(self):
        for web in small_webs() + large_webs() + webs_of_twelve() + leaving_webs(9, 20, 53):
            if not is_leaving(web):
                with self.assertRaises(NotLeaving) as caught:
                    spread_of(web)
                self.assertIs(is_bare(web, caught.exception.ring), True)
                continue
            told = spread_of(web)
            self.assertIs(type(told), tuple)
            host, spread = told
            self.assertTrue(is_host(host) and is_spread(host, spread) and web_of_spread(host, spread) == web)
            self.assertEqual(host[0], len(lot_oracle.whole_lots(web)))
            self.assertIs(is_spread_of(web, told), True)

    def test_no_spread_has_fewer_spots_than_there_are_whole_lots(self):
        fewest = {}
        for count in (1, 2, 3):
            for host in all_hosts(count):
                joined = [lot for lot in lots(count) if oracle.joined(host, lot)]
                for row in [(a, b, c) for a in joined for b in joined for c in joined]:
                    fewest.setdefault(web_of_spread(host, row), count)
        for web in all_webs(3):
            self.assertEqual(fewest[web], spread_of(web)[0][0])

    def test_is_spread_of_any_value(self):
        web, told = path_web(3), (path_web(2), ((0,), (0, 1), (1,)))
        self.assertIs(is_spread_of(web, told), True)
        self.assertIs(is_spread_of(web, (path_web(3), ((0, 1), (1, 2), (2,)))), True)
        wrong = [[*told], told[0], told[1], (*told, 0), (told,), (told[1], told[0]), (told[0], ((0,), (0, 1))),
                 (told[0], ((0,), (1,), (0, 1))), (told[0], [*told[1]]), (bare_web(2), ((0,), (0,), (1,))),
                 (told[0], ((0,), (0, 1), (1,), (1,))), (None, told[1]), (told[0], None), ((), ())]
        for value in wrong + ODD_VALUES:
            self.assertIs(is_spread_of(web, value), False, value)
        self.assertIs(is_spread_of(ring_web(4), (path_web(2), ((0,), (0, 1), (1,), (0,)))), False)

    def test_edges(self):
        self.assertEqual(spread_of(bare_web(1)), ((1, ()), ((0,),)))
        self.assertEqual(spread_of(full_web(12)), ((1, ()), ((0,),) * 12))
        self.assertEqual(len(spread_of(bare_web(12))[0][1]), 11)
        self.assertEqual(web_of_spread(bare_web(1), ((0,),) * 12), full_web(12))
        self.assertEqual(web_of_spread(path_web(12), tuple((x,) for x in range(12))), bare_web(12))
        self.assertEqual(web_of_spread(star_web(3), ((1,), (2,))), bare_web(2))


class SpotsTest(unittest.TestCase):

    def test_common_spots(self):
        for host, spread in cases()[::3]:
            web = web_of_spread(host, spread)
            for lot in lots(min(len(spread), 7))[1:]:
                common = tuple(spot for spot in range(host[0]) if all(spot in spread[place] for place in lot))
                self.assertEqual(common_spots(host, spread, lot), common)
                self.assertIs(common == (), not oracle.all_tied(web, lot), (host, spread, lot))
            for whole in lot_oracle.whole_lots(web):
                just = [spot for spot in common_spots(host, spread, whole)
                        if tuple(at for at, lot in enumerate(spread) if spot in lot) == whole]
                self.assertNotEqual(just, [])

    def test_common_spots_wants_a_place(self):
        for host, spread in cases()[::9]:
            for lot in ((), (len(spread),), [0], (0, 0), None):
                with self.assertRaises(InvalidLot):
                    common_spots(host, spread, lot)
        self.assertEqual(common_spots(bare_web(1), ((0,),) * 12, tuple(range(12))), (0,))

    def test_spanned(self):
        hosts = [host for count in (1, 2, 3, 4) for host in all_hosts(count)] + some_hosts(7, 3, 54)
        for host in hosts:
            joined = [lot for lot in lots(host[0]) if oracle.joined(host, lot)]
            for lot in lots(host[0])[1:]:
                over = [other for other in joined if set(lot) <= set(other)]
                self.assertEqual(spanned(host, lot), over[0])
                ways = {spot for x in lot for y in lot for spot in way_between(host, x, y)}
                self.assertEqual(spanned(host, lot), tuple(sorted(ways)))
            self.assertEqual(spanned(host, ()), ())
        self.assertEqual(spanned(path_web(12), (0, 11)), tuple(range(12)))
        self.assertEqual([spanned(star_web(12), (5, 9)), spanned(star_web(12), (7,))], [(0, 5, 9), (7,)])

    def test_across_and_beyond(self):
        for host, spread in cases():
            web = web_of_spread(host, spread)
            for x, y in host[1]:
                both = tuple(at for at, lot in enumerate(spread) if x in lot and y in lot)
                low, high = side_of(host, x, y), side_of(host, y, x)
                sides = (tuple(at for at, lot in enumerate(spread) if set(lot) <= set(low)),
                         tuple(at for at, lot in enumerate(spread) if set(lot) <= set(high)))
                self.assertEqual(across(host, spread, (x, y)), both)
                self.assertEqual(beyond(host, spread, (x, y)), sides)
                self.assertEqual(sorted(both + sides[0] + sides[1]), list(range(len(spread))))
                for place in sides[0]:
                    for other in sides[1]:
                        self.assertIs(is_parting(web, both, place, other), True)

    def test_each_least_parting_lot_is_across_some_tie(self):
        for host, spread in [case for case in cases() if len(case[1]) <= 6][::3]:
            web = web_of_spread(host, spread)
            found = [across(host, spread, tie) for tie in host[1]]
            for x, y in combinations(range(web[0]), 2):
                if not oracle.tied(web, x, y):
                    for lot in lot_oracle.least_lots(web, x, y):
                        self.assertIn(lot, found)

    def test_order_from(self):
        for host, spread in cases():
            web = web_of_spread(host, spread)
            for spot in range(host[0]):
                steps = [min(len(way_between(host, spot, held)) - 1 for held in lot) for lot in spread]
                row = tuple(sorted(range(len(spread)), key=lambda place: (-steps[place], place)))
                self.assertEqual(order_from(host, spread, spot), row)
                self.assertTrue(lot_oracle.is_leaving_row(web, row))


class TrimmedTest(unittest.TestCase):

    def test_drawn_together_one_by_one(self):
        for host, spread in cases():
            kept = trim(host, spread)
            self.assertEqual(trimmed(host, spread), kept)
            web = web_of_spread(host, spread)
            self.assertTrue(is_host(kept[0]) and is_spread_of(web, kept))
            self.assertEqual(kept[0][0], len(lot_oracle.whole_lots(web)))

    def test_edges(self):
        self.assertEqual(trimmed(bare_web(1), ((0,), (0,))), (bare_web(1), ((0,), (0,))))
        self.assertEqual(trimmed(path_web(12), ((3,),)), (bare_web(1), ((0,),)))
        self.assertEqual(trimmed(star_web(12), ((5,), (9,))), (path_web(2), ((0,), (1,))))
        every = tuple((x,) for x in range(12))
        self.assertEqual(trimmed(path_web(12), every), (path_web(12), every))
        self.assertEqual(trimmed(path_web(3), ((0, 1), (1, 2))), (bare_web(1), ((0,), (0,))))

    def test_trimmed_of_what_is_told(self):
        for web in leaving_webs(10, 20, 55) + [beside(path_web(4), full_web(5)), parted_web(2, 1)]:
            self.assertEqual(trimmed(*spread_of(web)), spread_of(web))


def trim(host, spread):
    """By the words of the document, on sets."""
    count, ties, held = host[0], set(host[1]), [set(lot) for lot in spread]
    while True:
        going = [(spot, other) for x, y in sorted(ties) for spot, other in ((y, x), (x, y))
                 if all(other in lot for lot in held if spot in lot)]
        if not going:
            return (count, tuple(sorted(ties))), tuple(tuple(sorted(lot)) for lot in held)
        spot, other = going[0]
        ties = {tuple(sorted(other if end == spot else end for end in tie)) for tie in ties
                if set(tie) != {spot, other}}
        lower = lambda end: end - (end > spot)
        ties = {(lower(x), lower(y)) for x, y in ties}
        held = [{lower(end) for end in lot if end != spot} for lot in held]
        count -= 1


class MoreFactsTest(unittest.TestCase):

    def test_places_that_share_pairwise_share_one_spot(self):
        for host, spread in [case for case in cases() if len(case[1]) == 4]:
            for lot in lots(4)[1:]:
                if all(set(spread[x]) & set(spread[y]) for x, y in permutations(lot, 2)):
                    self.assertNotEqual(common_spots(host, spread, lot), ())


if __name__ == "__main__":
    unittest.main()

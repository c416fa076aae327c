"""[41] to [44], M1 to M5: live webs against plain ones that go by the words of the document."""

import copy
import inspect
import random
import unittest
from itertools import combinations

from leaveorder import errors
from leaveorder.bare_rounds import is_bare
from leaveorder.fillings import filling_by
from leaveorder.leaving import first_order, is_leaving, is_order
from leaveorder.live import LeavingLive, Live, replay
from leaveorder.partings import is_parting
from leaveorder.webs import beside
from leaveorder.whole_lots import whole_lots
from leaveorder.widths import width, width_by
from tests import oracle
from tests.at_hand import (BIG, ODD_VALUES, all_webs, bare_web, deep, full_web, leaving_webs, lots, pairs, path_web,
                           ring_web, some_webs, star_web, two_sided_web)
from tests.live_model import Model, PARAMETERS, Wrong
from tests.wrong import WRONG_WEBS

WRONG_MARKS = ODD_VALUES[:12] + [(), (0,), [0], "0", 99, -2, deep(tuple), 1000, BIG + 1]
WRONG_SETS = ODD_VALUES + [(1, 0), (0, 0), (0, 99), [0, 1], (0, True), (0, None), 0, (0, 1, 99), ((0,),)]


def answers(live):
    """All that can be read of a live web."""
    fields = (live.web, live.start, live.marks, live.next_mark, live.row, live.put_in, live.deeds, live.depth)
    return fields + (live.puts(), live.widths(), live.leavings(), live.lots())


def starts():
    webs = [bare_web(1), path_web(2), path_web(4), ring_web(4), full_web(5), ring_web(12), bare_web(12), full_web(12)]
    return webs + some_webs(5, 4, 160) + some_webs(8, 4, 161) + leaving_webs(7, 4, 162) + leaving_webs(11, 3, 163)


class LiveCase(unittest.TestCase):

    def make(self, web, leaving):
        return LeavingLive(web) if leaving else Live(web)

    def assert_like(self, live, models, deeds):
        """The live web answers as the plain ones behind 0, 1, .. deeds tell."""
        model = models[-1]
        self.assertEqual(live.web, model.web())
        self.assertEqual([live.marks, live.row], [tuple(model.marks), tuple(model.row)])
        self.assertEqual([live.next_mark, live.deeds], [model.next_mark, deeds])
        self.assertEqual(live.put_in, tuple(model.gone_by(model.row)[0]))
        told = [held.told() for held in models]
        self.assertEqual([live.puts(), live.widths(), live.leavings()], [[part[at] for part in told] for at in range(3)])
        self.assertEqual(live.lots(), model.lots())
        for value in (live.web, live.marks, live.row, live.put_in):
            self.assertIs(type(value), tuple)

    def some_deed(self, chance, live):
        """A deed that may be done or not."""
        marks = list(live.marks)
        some = [*marks, *marks, *marks, live.next_mark, 99]
        name = chance.choice(("come", "come", "leave", "tie", "tie", "tie", "untie", "untie", "draw", "move", "move",
                              "ease", "clear"))
        if name == "come":
            lot = [x for x in marks if chance.randrange(3) == 0]
            return (name, tuple(lot if chance.randrange(9) else [*lot, 99]))
        if name == "move":
            return (name, chance.choice(some), chance.randrange(len(marks) + 2))
        return (name, *[chance.choice(some) for _ in range(PARAMETERS[name])])

    def assert_raises(self, live, deed, model, wrong):
        """The deed raises this error, also as would, and changes nothing."""
        kept = answers(live)
        error = getattr(errors, wrong.name)
        for call in ((lambda: live.would(deed)), (lambda: getattr(live, deed[0])(*deed[1:]))):
            with self.assertRaises(error, msg=(kept, deed)) as caught:
                call()
            self.assertIs(type(caught.exception), error, (kept, deed))
            if wrong.name == "NotLeaving":
                ring, named = caught.exception.ring, wrong.model
                self.assertTrue(is_bare(named.web(), tuple(named.marks.index(mark) for mark in ring)), (deed, ring))
            if wrong.name == "TooMany":
                self.assertEqual(caught.exception.count, 12)
            self.assertEqual(answers(live), kept)

    def do(self, live, models, deeds, deed):
        """The deed is looked at by would, then done, in the program and by the words."""
        try:
            model, returned = models[-1].behind(deed)
        except Wrong as wrong:
            self.assert_raises(live, deed, models[-1], wrong)
            return
        kept = answers(live)
        self.assertEqual(live.would(deed), model.told(), deed)
        self.assertEqual(answers(live), kept)
        told = getattr(live, deed[0])(*deed[1:])
        self.assertEqual((told, type(told)), (returned, type(returned)))
        models.append(model)
        deeds.append(deed)


class DeedsTest(LiveCase):

    def test_drawn_deeds(self):
        for at, web in enumerate(starts()):
            for leaving in (False, True):
                if leaving and not is_leaving(web):
                    continue
                chance = random.Random(at)
                live, models, deeds = self.make(web, leaving), [Model(web, leaving)], []
                self.assert_like(live, models, deeds)
                for _ in range(35):
                    if chance.randrange(6) == 0 and deeds:
                        self.assertEqual(live.undo(), deeds.pop())
                        models.pop()
                    else:
                        self.do(live, models, deeds, self.some_deed(chance, live))
                    self.assert_like(live, models, deeds)
                self.assert_replay(live, leaving)
                while deeds:
                    self.assertEqual(live.undo(), deeds.pop())
                    models.pop()
                    self.assert_like(live, models, deeds)
                with self.assertRaises(errors.NothingToUndo):
                    live.undo()

    def assert_replay(self, live, leaving):
        again = replay(live.start, live.deeds, leaving=leaving)
        self.assertIs(type(again), type(live))
        self.assertTrue(again == live and not again != live)
        self.assertEqual(answers(again), answers(live))

    def test_all_deeds_of_small_webs(self):
        for web in [web for count in (1, 2, 3) for web in all_webs(count)] + all_webs(4)[::3]:
            for leaving in (False, True):
                if leaving and not is_leaving(web):
                    with self.assertRaises(errors.NotLeaving) as caught:
                        LeavingLive(web)
                    self.assertIs(is_bare(web, caught.exception.ring), True)
                    continue
                marks = range(web[0])
                every = [("come", lot) for lot in lots(web[0])] + [("leave", x) for x in marks] + [("ease",), ("clear",)]
                every += [(name, x, y) for name in ("tie", "untie", "draw", "move") for x in marks for y in marks]
                for deed in every:
                    live, models, deeds = self.make(web, leaving), [Model(web, leaving)], []
                    self.do(live, models, deeds, deed)
                    self.assert_like(live, models, deeds)

    def test_marks_are_kept(self):
        live = Live(path_web(3))
        self.assertEqual([live.come(()), live.come((0, 3)), live.leave(1), live.come((4,))], [3, 4, None, 5])
        self.assertEqual([live.marks, live.row, live.next_mark], [(0, 2, 3, 4, 5), (5, 4, 3, 0, 2), 6])
        self.assertEqual([live.undo(), live.next_mark, live.come(())], [("come", (4,)), 5, 5])
        self.assertEqual([live.undo(), live.undo(), live.undo(), live.next_mark], [("come", ()), ("leave", 1),
                                                                                  ("come", (0, 3)), 4])
        live.leave(0)
        self.assertEqual(live.web, (3, ((0, 1),)))

    def test_moves(self):
        live = Live(bare_web(4))
        for mark, number, row in ((2, 0, (2, 0, 1, 3)), (2, 3, (0, 1, 3, 2)), (1, 1, (0, 1, 3, 2)), (0, 2, (1, 3, 0, 2))):
            self.assertIsNone(live.move(mark, number))
            self.assertEqual(live.row, row)
        self.assertEqual(len(live.deeds), 4)
        for number in (4, 5, BIG):
            with self.assertRaises(errors.Refused):
                live.move(0, number)
        with self.assertRaises(errors.InvalidCount):
            live.move(0, -1)
        with self.assertRaises(errors.InvalidPlace):
            live.move(9, -1)

    def test_the_only_place(self):
        for kind in (Live, LeavingLive):
            live = kind(bare_web(1))
            self.assertEqual(answers(live), ((1, ()), (1, ()), (0,), 1, (0,), (), [], 0, [0], [0], [True], [(0,)]))
            with self.assertRaises(errors.Refused):
                live.leave(0)
            self.assertEqual([live.come((0,)), live.draw(0, 1), live.marks], [1, None, (1,)])
            with self.assertRaises(errors.Refused):
                live.leave(1)
            with self.assertRaises(errors.Refused):
                live.ease()
            self.assertEqual([live.clear(), live.move(1, 0), live.row], [None, None, (1,)])

    def test_too_many(self):
        for kind in (Live, LeavingLive):
            live = kind(bare_web(11))
            self.assertEqual(live.come(tuple(range(3, 4))), 11)
            for marks in ((), (0,), (0, 1)):
                with self.assertRaises(errors.TooMany) as caught:
                    live.come(marks)
                self.assertEqual(caught.exception.count, 12)
            with self.assertRaises(errors.InvalidLot):
                live.come((1, 0))

    def test_deeds_are_told_as_passed(self):
        live = Live(ring_web(4))
        live.tie(2, 0)
        live.come(marks=(1,))
        live.untie(other_mark=0, mark=2)
        live.move(number=0, mark=3)
        live.draw(mark=3, other_mark=0)
        live.leave(mark=2)
        self.assertEqual(live.deeds, [("tie", 2, 0), ("come", (1,)), ("untie", 2, 0), ("move", 3, 0), ("draw", 3, 0),
                                      ("leave", 2)])

    def test_wrong_values(self):
        for kind, web in ((Live, ring_web(4)), (LeavingLive, path_web(4))):
            live = kind(web)
            kept = answers(live)
            for wrong in WRONG_MARKS:
                for name in ("leave", "tie", "untie", "draw", "move"):
                    values = (0,) * (PARAMETERS[name] - 1)
                    self.assert_error(live, (name, wrong, *values), errors.InvalidPlace)
                for name in ("tie", "untie", "draw"):
                    self.assert_error(live, (name, 0, wrong), errors.InvalidPlace)
                    self.assert_error(live, (name, wrong, wrong), errors.InvalidPlace)
                self.assert_error(live, ("move", wrong, -1), errors.InvalidPlace)
            for name in ("tie", "untie", "draw"):
                self.assert_error(live, (name, 2, 2), errors.InvalidPlace)
            for wrong in WRONG_SETS:
                self.assert_error(live, ("come", wrong), errors.InvalidLot)
            for wrong in (None, True, False, -1, -BIG, "1", (1,), [], deep(list)):
                self.assert_error(live, ("move", 0, wrong), errors.InvalidCount)
            self.assertEqual(answers(live), kept)
        for wrong in WRONG_WEBS:
            for make in (Live, LeavingLive, lambda web: replay(web, None), lambda web: replay(web, [], leaving=True)):
                with self.assertRaises(errors.InvalidWeb):
                    make(wrong)

    def assert_error(self, live, deed, error):
        for call in ((lambda: live.would(deed)), (lambda: getattr(live, deed[0])(*deed[1:]))):
            with self.assertRaises(error, msg=deed) as caught:
                call()
            self.assertIs(type(caught.exception), error, deed)


class ReadingTest(LiveCase):

    def test_lists_are_new(self):
        live = Live(ring_web(5))
        live.tie(0, 2)
        for read in (lambda: live.deeds, live.puts, live.widths, live.leavings, live.lots):
            told = read()
            kept = copy.deepcopy(told)
            told.append("more")
            told[0] = None
            self.assertEqual(read(), kept)
        self.assertEqual(live.undo(), ("tie", 0, 2))

    def test_fields_and_names(self):
        for live in (Live(path_web(3)), LeavingLive(path_web(3)), replay(path_web(3), [("come", ())]).twin()):
            for name in ("web", "start", "marks", "next_mark", "row", "put_in", "deeds", "depth"):
                self.assertTrue(hasattr(live, name))
            self.assertIs(type(live.deeds), list)
        methods = {"come": ["marks"], "leave": ["mark"], "tie": ["mark", "other_mark"], "untie": ["mark", "other_mark"],
                   "draw": ["mark", "other_mark"], "move": ["mark", "number"], "ease": [], "clear": [], "puts": [],
                   "widths": [], "leavings": [], "lots": [], "would": ["deed"], "undo": [], "begin": [], "keep": [],
                   "drop": [], "twin": [], "__init__": ["web"], "__eq__": ["other"]}
        for name, parameters in methods.items():
            self.assertIn(name, vars(Live))
            self.assertEqual(list(inspect.signature(getattr(Live, name)).parameters)[1:], parameters)
        self.assertIn("__init__", vars(LeavingLive))
        self.assertEqual(list(inspect.signature(LeavingLive).parameters), ["web"])
        told = inspect.signature(replay).parameters
        self.assertEqual(list(told), ["web", "deeds", "leaving"])
        self.assertEqual([told["leaving"].default, told["leaving"].kind.name], [False, "KEYWORD_ONLY"])
        self.assertEqual({Live.__module__, LeavingLive.__module__, replay.__module__}, {"leaveorder.live"})
        self.assertTrue(issubclass(LeavingLive, Live))
        self.assertEqual(Live(web=path_web(3)), Live(path_web(3)))
        self.assertEqual(replay(deeds=[], web=path_web(3)), Live(path_web(3)))

    def test_would_of_any_value(self):
        live = Live(ring_web(4))
        live.begin()
        kept = answers(live)
        wrong = [*ODD_VALUES, (), ("come",), ("come", (), ()), ["ease"], ("ease", 0), ("tie", 0), ("tie", 0, 1, 2), "ease",
                 ("undo",), ("begin",), ("keep",), ("would", ("ease",)), ("twin",), ("puts",), ("Ease",), ("ease ",), (0,),
                 (None, 1), (("ease",),), (["ease"],), ("redo", ("ease",)), ("copied",), ("move", 0), ("web",), ("__eq__", 1)]
        for deed in wrong:
            with self.assertRaises(errors.InvalidDeeds, msg=deed) as caught:
                live.would(deed)
            self.assertEqual(caught.exception.index, 0)
            self.assertEqual(answers(live), kept)
        self.assertEqual([live.would(("tie", 0, 2)), live.would(deed=("move", 1, 0)), live.would(("come", (0, 2)))],
                         [(1, 3, True), (1, 2, False), (2, 3, False)])
        self.assertEqual(live.would(("come", ())), (1, 2, False))
        self.assertEqual(answers(live), kept)

    def test_equality(self):
        one, other = Live(path_web(4)), Live(path_web(4))
        self.assertTrue(one == other and not one != other)
        one.tie(0, 2)
        self.assertTrue(one != other and not one == other)
        other.tie(2, 0)
        self.assertTrue(one != other)
        other.undo()
        other.begin()
        other.tie(0, 2)
        self.assertTrue(one == other)
        leaving = LeavingLive(path_web(4))
        leaving.tie(0, 2)
        self.assertEqual(answers(leaving)[:5], answers(one)[:5])
        self.assertTrue(one != leaving and leaving != one and not one == leaving and not leaving == one)
        self.assertTrue(leaving == leaving.twin())
        for value in [*ODD_VALUES[:20], path_web(4), Live, object()]:
            self.assertFalse(one == value)
            self.assertTrue(one != value)
            self.assertFalse(value == one)
        # The same web now, but unlike starts.
        far = Live(path_web(3))
        far.come((2,))
        far.move(3, 3)
        self.assertEqual([far.web, far.row], [path_web(4), (0, 1, 2, 3)])
        self.assertTrue(far != Live(path_web(4)))

    def test_twins(self):
        for kind, web in ((Live, ring_web(5)), (LeavingLive, path_web(5))):
            live = kind(web)
            live.come((0,))
            live.begin()
            live.come((1,))
            live.begin()
            twin = live.twin()
            self.assertIs(type(twin), kind)
            self.assertTrue(twin == live)
            self.assertEqual([twin.depth, live.depth], [0, 2])
            self.assertEqual(answers(twin)[:7], answers(live)[:7])
            with self.assertRaises(errors.NoSpan):
                twin.drop()
            kept = answers(live)
            self.assertEqual([twin.undo(), twin.undo(), twin.come(()), twin.leave(2)], [("come", (1,)), ("come", (0,)), 5, None])
            self.assertEqual(answers(live), kept)
            live.drop()
            self.assertEqual(len(twin.deeds), 2)
            if kind is LeavingLive:
                twin = kind(path_web(4)).twin()
                with self.assertRaises(errors.NotLeaving):
                    twin.tie(0, 3)


class SpansTest(LiveCase):

    def test_drawn_spans(self):
        for at, web in enumerate(starts()[::2]):
            leaving = bool(at % 2) and is_leaving(web)
            chance = random.Random(at + 500)
            live, models, deeds, spans = self.make(web, leaving), [Model(web, leaving)], [], []
            for _ in range(60):
                what = chance.randrange(9)
                if what == 0 and len(spans) < 12:
                    self.assertIsNone(live.begin())
                    spans.append(len(deeds))
                elif what == 1 and spans:
                    self.assertIsNone(live.keep())
                    spans.pop()
                elif what == 2 and spans:
                    self.assertIsNone(live.drop())
                    begun = spans.pop()
                    del deeds[begun:], models[begun + 1:]
                elif what == 3:
                    self.undo(live, models, deeds, spans)
                else:
                    self.do(live, models, deeds, self.some_deed(chance, live))
                self.assertEqual(live.depth, len(spans))
                self.assert_like(live, models, deeds)

    def undo(self, live, models, deeds, spans):
        if len(deeds) == (spans[-1] if spans else 0):
            kept = answers(live)
            with self.assertRaises(errors.NothingToUndo):
                live.undo()
            self.assertEqual(answers(live), kept)
        else:
            self.assertEqual(live.undo(), deeds.pop())
            models.pop()

    def test_edges(self):
        live = Live(path_web(3))
        for end in (live.keep, live.drop):
            with self.assertRaises(errors.NoSpan):
                end()
        live.come(())
        live.begin()
        with self.assertRaises(errors.NothingToUndo):
            live.undo()
        for depth in range(2, 13):
            live.begin()
            live.come((0,))
            live.leave(live.next_mark - 1)
            self.assertEqual(live.depth, depth)
        self.assertEqual([live.undo(), live.undo()], [("leave", 14), ("come", (0,))])
        with self.assertRaises(errors.NothingToUndo):
            live.undo()
        live.keep()
        live.drop()
        self.assertEqual([live.depth, len(live.deeds)], [10, 19])
        for _ in range(9):
            live.keep()
        live.drop()
        self.assertEqual([live.depth, live.deeds, live.next_mark], [0, [("come", ())], 4])
        with self.assertRaises(errors.NoSpan):
            live.drop()
        self.assertEqual(live.undo(), ("come", ()))


class LeavingTest(LiveCase):

    def test_when_ties_are_refused(self):
        webs = [web for web in all_webs(4) + all_webs(5)[::23] + leaving_webs(7, 8, 164) if is_leaving(web)]
        for web in webs:
            live = LeavingLive(web)
            for x, y in pairs(web[0]):
                common = tuple(z for z in oracle.near(web, x) if z in oracle.near(web, y))
                both = [lot for lot in whole_lots(web) if x in lot and y in lot]
                if (x, y) in web[1]:
                    self.assert_refused(live, ("untie", x, y), len(both) > 1)
                    self.assert_refused(live, ("draw", y, x), False)
                    self.assert_refused(live, ("draw", x, y), False)
                else:
                    self.assert_refused(live, ("tie", x, y), not is_parting(web, common, x, y))
            for x in range(web[0]):
                self.assert_refused(live, ("leave", x), False)
            with self.assertRaises(errors.Refused):
                live.ease()

    def assert_refused(self, live, deed, refused):
        if refused:
            with self.assertRaises(errors.NotLeaving):
                live.would(deed)
        else:
            self.assertIs(live.would(deed)[2], True)

    def test_the_row_is_always_an_order(self):
        for web in leaving_webs(6, 10, 165) + [path_web(12), star_web(12)]:
            live = LeavingLive(web)
            row = tuple(range(web[0]))
            self.assertEqual(live.row, row if is_order(web, row) else first_order(web))
            self.assertEqual([live.put_in, live.deeds], [(), []])
            for mark in live.marks:
                for number in range(web[0]):
                    others = [other for other in live.row if other != mark]
                    moved = (*others[:number], mark, *others[number:])
                    if is_order(web, moved):
                        live.move(mark, number)
                        self.assertEqual(live.row, moved)
                        live.undo()
                    else:
                        with self.assertRaises(errors.Refused):
                            live.move(mark, number)

    def test_a_row_taken_back(self):
        live = LeavingLive(path_web(4))
        live.move(3, 0)
        self.assertEqual(live.row, (3, 0, 1, 2))
        live.untie(1, 2)
        live.tie(0, 2)
        self.assertEqual(live.row, (3, 0, 1, 2) if is_order(live.web, (3, 0, 1, 2)) else first_order(live.web))
        live.undo()
        live.undo()
        self.assertEqual([live.row, live.deeds], [(3, 0, 1, 2), [("move", 3, 0)]])
        live.come((3,))
        self.assertEqual(live.row, (4, 3, 0, 1, 2))
        live.leave(3)
        self.assertEqual(live.row, (4, 0, 1, 2))
        # A row that is no order of the new web goes, and comes back with the undone deed.
        live = LeavingLive(bare_web(3))
        live.tie(0, 1)
        live.tie(0, 2)
        self.assertEqual(live.row, (1, 0, 2))
        self.assertEqual([live.undo(), live.row], [("tie", 0, 2), (0, 1, 2)])


class ReplayTest(LiveCase):

    def test_indexes(self):
        web = ring_web(4)
        right = [("tie", 0, 2), ("ease",), ("come", (1, 3)), ("move", 4, 2), ("leave", 0), ("draw", 4, 1)]
        self.assertEqual(replay(web, right).deeds, right)
        for wrong in ([*ODD_VALUES, ("tie", 0), ("tie", 9, 0), ("ease", 1), ["ease"], ("undo",), ("leave", True),
                       ("come", (9,)), ("come", [1]), ("move", 1, 9), ("clear", None), ("begin",), (), ("come",)]):
            for at in range(len(right) + 1):
                with self.assertRaises(errors.InvalidDeeds, msg=wrong) as caught:
                    replay(web, [*right[:at], wrong, None, *right[at:]])
                self.assertEqual(caught.exception.index, at)
        with self.assertRaises(errors.InvalidDeeds) as caught:
            replay(web, right[3:])
        self.assertEqual(caught.exception.index, 0)
        with self.assertRaises(errors.InvalidDeeds) as caught:
            replay(web, [("tie", 0, 2), ("tie", 0, 2)])
        self.assertEqual(caught.exception.index, 1)
        with self.assertRaises(errors.InvalidDeeds) as caught:
            replay(web, [("clear",)])
        self.assertEqual(caught.exception.index, 0)

    def test_no_list(self):
        for wrong in (None, (), (("ease",),), "ease", 0, True, {}, deep(tuple)):
            with self.assertRaises(errors.InvalidDeeds) as caught:
                replay(path_web(3), wrong)
            self.assertEqual(caught.exception.index, 0)
            with self.assertRaises(errors.NotLeaving):
                replay(ring_web(4), wrong, leaving=True)

    def test_leaving(self):
        path = path_web(4)
        deeds = [("tie", 0, 2), ("tie", 0, 3)]
        self.assertIs(type(replay(path, deeds, leaving=True)), LeavingLive)
        self.assertIs(type(replay(path, deeds, leaving=False)), Live)
        with self.assertRaises(errors.InvalidDeeds) as caught:
            replay(path, [("come", ()), ("tie", 0, 3)], leaving=True)
        self.assertEqual(caught.exception.index, 1)
        self.assertEqual(replay(path, [("come", ()), ("tie", 0, 3)]).leavings(), [True, True, False])

    def test_the_deeds_are_not_changed(self):
        deeds = [("come", (0,)), ("leave", 1)]
        live = replay(path_web(3), deeds)
        live.undo()
        self.assertEqual(deeds, [("come", (0,)), ("leave", 1)])
        deeds.append(None)
        self.assertEqual(live.deeds, [("come", (0,))])


class FactsTest(LiveCase):

    def test_rows_and_put_in_ties(self):
        for web in starts() + some_webs(9, 8, 166) + [two_sided_web(12)]:
            live = Live(web)
            for number in (0, live.web[0] // 2):
                live.move(live.marks[-1], number)
                whole = (web[0], tuple(sorted(web[1] + live.put_in)))
                self.assertIs(is_order(whole, live.row), True)
                self.assertEqual(live.put_in, filling_by(web, live.row))
                self.assertIs(live.put_in == (), is_order(web, live.row))
                self.assertEqual(live.widths()[-1], width_by(web, live.row))
                self.assertEqual(live.widths()[-1], max(len(lot) for lot in live.lots()) - 1)
                self.assertGreaterEqual(live.widths()[-1], width(web))
                self.assertEqual(live.lots(), whole_lots(whole))

    def test_ease_and_clear(self):
        for web in starts() + some_webs(9, 8, 167) + [two_sided_web(12)]:
            live = Live(web)
            before = len(live.put_in)
            try:
                count = live.ease()
                self.assertTrue(1 <= count <= before - len(live.put_in))
            except errors.Refused:
                self.assertEqual(live.deeds, [])
            with self.assertRaises(errors.Refused):
                live.ease()
            if is_leaving(web):
                live.clear()
                self.assertEqual([live.put_in, live.row], [(), first_order(web)])
            else:
                with self.assertRaises(errors.NotLeaving) as caught:
                    live.clear()
                self.assertIs(is_bare(web, caught.exception.ring), True)

    def test_rings_are_told_by_marks(self):
        live = Live(beside(bare_web(3), ring_web(4)))
        live.leave(1)
        live.leave(0)
        with self.assertRaises(errors.NotLeaving) as caught:
            live.clear()
        self.assertEqual(caught.exception.ring, (3, 4, 5, 6))
        live = LeavingLive(path_web(4))
        live.come(())
        live.leave(4)
        with self.assertRaises(errors.NotLeaving) as caught:
            live.come((0, 3))
        self.assertEqual(caught.exception.ring, (0, 1, 2, 3, 5))

    def test_no_live_web_hangs_on_another(self):
        one, other = Live(path_web(5)), Live(path_web(5))
        for x, y in combinations(range(5), 2):
            if (x, y) not in one.web[1]:
                one.tie(x, y)
        self.assertEqual([other.web, other.deeds], [path_web(5), []])


if __name__ == "__main__":
    unittest.main()

"""[47], [48], N3: the console against a plain one."""

import copy
import inspect
import random
import unittest

from leaveorder import errors
from leaveorder.console import Console
from leaveorder.leaving import is_leaving
from leaveorder.live import LeavingLive, Live
from leaveorder.paper_texts import paper_told
from leaveorder.webs import web_text, web_told
from tests.at_hand import ODD_VALUES, bare_web, full_web, leaving_webs, path_web, ring_web, some_webs

QUESTIONS = ("show", "marks", "row", "puts", "widths", "filled", "lots", "leavings", "where", "paper", "journal")
RING = "d:ab,ad,bc,cd"


def blank(parts):
    return " ".join(map(str, parts)) or "none"


def command(deed):
    return blank([deed[0], *(deed[1] if deed[0] == "come" else deed[1:])])


class Plain:
    """A console by the words of the document, over live webs; errors leave it as it was by a deep copy."""

    def __init__(self):
        self.lives = {}
        self.chosen = None

    def execute(self, text):
        kept = copy.deepcopy((self.lives, self.chosen))
        try:
            parts = text[4:].split("; ") if text[:4] == "run " else [text]
            return "; ".join([self.one(part.split(" ")) for part in parts])
        except errors.LeaveError:
            self.lives, self.chosen = kept
            raise

    def there(self, name):
        if name not in self.lives:
            raise errors.NotReady("")
        return self.lives[name]

    def one(self, words):
        word, *more = words
        if word in ("web", "leaving"):
            self.lives[more[0]] = (Live if word == "web" else LeavingLive)(web_told(more[1]))
            self.chosen = more[0]
            return "ok"
        if word in ("use", "forget"):
            self.there(more[0])
            if word == "use":
                self.chosen = more[0]
            else:
                self.lives.pop(more[0])
                self.chosen = None if self.chosen == more[0] else self.chosen
            return "ok"
        live = self.there(self.chosen)
        if word == "twin":
            self.lives[more[0]] = live.twin()
            return "ok"
        if word == "same":
            return "yes" if live == self.there(more[0]) else "no"
        return self.told(live, word, [int(part) for part in more] if word not in QUESTIONS else more)

    def told(self, live, word, values):
        if word == "come":
            return str(live.come(tuple(values)))
        if word in ("leave", "tie", "untie", "draw", "move", "ease", "clear", "begin", "keep", "drop"):
            told = getattr(live, word)(*values)
            return "ok" if told is None else str(told)
        if word == "undo":
            return command(live.undo())
        return {
            "show": lambda: web_text(live.web), "marks": lambda: blank(live.marks), "row": lambda: blank(live.row),
            "puts": lambda: blank(live.puts()), "widths": lambda: blank(live.widths()),
            "filled": lambda: blank("-".join(map(str, tie)) for tie in live.put_in),
            "lots": lambda: blank("+".join(map(str, lot)) for lot in live.lots()),
            "leavings": lambda: blank("yes" if told else "no" for told in live.leavings()),
            "where": lambda: blank([live.web[0], len(live.deeds), live.depth]),
            "paper": lambda: None,
            "journal": lambda: "; ".join([blank(["leaving" if type(live) is LeavingLive else "web", self.chosen,
                                                 web_text(live.start)]), *map(command, live.deeds)]),
        }[word]()


class ConsoleCase(unittest.TestCase):

    def all_told(self, console):
        """What all questions answer, or the error."""
        told = []
        for question in QUESTIONS:
            try:
                told.append(console.execute(question))
            except errors.LeaveError as error:
                told.append(type(error))
        return told

    def assert_error(self, console, text, error, **fields):
        with self.assertRaises(error, msg=text) as caught:
            console.execute(text)
        self.assertIs(type(caught.exception), error, text)
        for name, value in fields.items():
            self.assertEqual(getattr(caught.exception, name), value, text)


class CommandsTest(ConsoleCase):

    def test_right_forms(self):
        for text in ("web a a:", "web abcdefgh a:", "leaving z l:", "web a ;", "web a x;y", "web a \n", "use a", "twin a",
                     "forget a", "same a", "come", "come 0", "come 0 1 2", "come 9999", "come 1 0", "leave 0", "leave 10",
                     "tie 0 1", "untie 9999 0", "draw 0 0", "move 0 9999", "ease", "clear", "undo", "begin", "keep", "drop",
                     *QUESTIONS, "run ease", "run ease; ease", "run web a a:; show", "run web a x;; show"):
            console = Console()
            try:
                console.execute(text)
            except errors.LeaveError as error:
                self.assertNotIsInstance(error, errors.InvalidCommand, text)

    def test_wrong_forms(self):
        console = Console()
        console.execute(f"web a {RING}")
        kept = self.all_told(console)
        wrong = ["", " ", "show ", " show", "show show", "Show", "shows", "web", "web a", "web a ", "web  a a:", "web A a:",
                 "web a1 a:", "web abcdefghi a:", "web  a:", "web a a: ", "web a a: b", "web a a:  ", "leaving a", "use",
                 "use ", "use a b", "use 1", "twin", "twin a b", "forget", "forget A", "same", "same a a", "come ", "come  1",
                 "come 1 ", "come a", "come 01", "come 00", "come 10000", "come -1", "come +1", "come 1,2", "come 1.0",
                 "come 1_0", "leave", "leave 0 1", "leave a", "leave -0", "leave 00", "leave 1 ", "tie", "tie 0", "tie 0 1 2",
                 "tie 0  1", "tie 0,1", "untie 0 01", "draw 0", "draw 0 x", "move 0", "move 0 -1", "move 0 1 2", "move 0 00001",
                 "ease 1", "clear 0", "undo 1", "begin ", "keep a", "drop 1", "row 0", "puts ", "lots a", "journal a", "where ",
                 "show\n", "show\t", "come\t0", "tie 0\t1", "come \n1", "run", "run ", "run  show", "run show;", "run show; ",
                 "run show;show", "run show ; show", "run show;  show", "run ; show", "run run show", "run show; run show",
                 "run show; x", "run show; web a", "run show; tie 0", "Run show", "run\tshow", "show; show", "tie 0 1; show",
                 "web a a:; show", "run web a a: ; show", "use a;", "ease;", ";", "; ", "run web a; show", "exit", "help"]
        for value in [*wrong, *[value for value in ODD_VALUES if type(value) is not str], ["show"], ("show",), b"show"]:
            self.assert_error(console, value, errors.InvalidCommand)
            self.assertEqual(self.all_told(console), kept)
            if type(value) is str and value[:3] != "run" and not value.endswith("; show"):
                self.assert_error(console, f"run leave 0; {value}", errors.InvalidCommand)
                self.assertEqual(self.all_told(console), kept)

    def test_signs_that_look_like_digits_or_letters(self):
        console = Console()
        console.execute(f"web a {RING}")
        for value in ("come \u0661", "leave \u00b2", "use \u00e4", "use \u0430", "web \u00df a:", "show\u00a0"):
            self.assert_error(console, value, errors.InvalidCommand)
        self.assert_error(console, "web a \u00e4", errors.InvalidText, index=0)

    def test_names(self):
        self.assertEqual(list(inspect.signature(Console).parameters), [])
        self.assertEqual(list(inspect.signature(Console.execute).parameters), ["self", "command"])
        self.assertEqual(Console().execute(command="web a a:"), "ok")
        self.assertEqual([name for name in vars(Console()) if not name.startswith("_")], [])
        self.assertEqual(Console.__module__, "leaveorder.console")


class AnswersTest(ConsoleCase):

    def test_answers(self):
        console = Console()
        for text, answer in (
                (f"web ring {RING}", "ok"), ("show", RING), ("marks", "0 1 2 3"), ("row", "0 1 2 3"), ("puts", "1"),
                ("widths", "2"), ("filled", "1-3"), ("lots", "0+1+3 1+2+3"), ("leavings", "no"), ("where", "4 0 0"),
                ("journal", f"web ring {RING}"), ("come", "4"), ("come 0 2", "5"), ("marks", "0 1 2 3 4 5"),
                ("row", "5 4 0 1 2 3"), ("where", "6 2 0"), ("filled", "0-2 1-3"), ("leave 4", "ok"), ("move 5 4", "ok"),
                ("row", "0 1 2 3 5"), ("show", "e:ab,ad,ae,bc,cd,ce"), ("tie 5 3", "ok"), ("untie 3 5", "ok"),
                ("draw 5 0", "ok"), ("marks", "0 1 2 3"), ("show", "d:ab,ac,ad,bc,cd"), ("leavings", "no no no no no no no yes"),
                ("clear", "ok"), ("row", "1 0 2 3"), ("filled", "none"), ("paper", "o;d:ab,ac,ad,bc,cd;bacd"),
                ("journal", f"web ring {RING}; come; come 0 2; leave 4; move 5 4; tie 5 3; untie 3 5; draw 5 0; clear"),
                ("undo", "clear"), ("undo", "draw 5 0"), ("undo", "untie 3 5"), ("undo", "tie 5 3"), ("undo", "move 5 4"),
                ("undo", "leave 4"), ("undo", "come 0 2"), ("undo", "come"), ("begin", "ok"), ("begin", "ok"),
                ("where", "4 0 2"), ("keep", "ok"), ("drop", "ok"), ("where", "4 0 0"), ("move 3 0", "ok"), ("ease", None),
                ("web a a:", "ok"), ("filled", "none"), ("lots", "0"), ("where", "1 0 0"), ("paper", "o;a:;a"),
                ("puts", "0"), ("leavings", "yes"), ("journal", "web a a:"), ("show", "a:")):
            if answer is None:
                self.assert_error(console, text, errors.Refused)
            else:
                self.assertEqual(console.execute(text), answer, text)

    def test_papers(self):
        for web in some_webs(7, 12, 180) + leaving_webs(9, 4, 181) + [ring_web(12)]:
            console = Console()
            console.execute(f"web a {web_text(web)}")
            told = paper_told(console.execute("paper"))
            self.assertEqual(told[:2], ("order" if is_leaving(web) else "ring", web))
            console.execute("leave 0")
            self.assertEqual(paper_told(console.execute("paper"))[1], web_told(console.execute("show")))

    def test_names_and_choices(self):
        console = Console()
        for text, answer in (
                ("web a c:ab", "ok"), ("web b c:ab", "ok"), ("same a", "yes"), ("same b", "yes"), ("tie 0 2", "ok"),
                ("same a", "no"), ("twin c", "ok"), ("same c", "yes"), ("journal", "web b c:ab; tie 0 2"), ("use c", "ok"),
                ("journal", "web c c:ab; tie 0 2"), ("begin", "ok"), ("where", "3 1 1"), ("twin c", "ok"), ("where", "3 1 0"),
                ("leaving a c:ab", "ok"), ("journal", "leaving a c:ab"), ("web d c:ab", "ok"), ("same a", "no"),
                ("forget a", "ok"), ("journal", "web d c:ab"), ("forget d", "ok"), ("use b", "ok"), ("twin b", "ok"),
                ("show", "c:ab,ac"), ("web b a:", "ok"), ("show", "a:"), ("use c", "ok"), ("undo", "tie 0 2"),
                ("twin x", "ok"), ("leave 0", "ok"), ("use x", "ok"), ("show", "c:ab")):
            self.assertEqual(console.execute(text), answer, text)
            if text == "forget d":
                for wrong in ("show", "ease", "undo", "begin", "same b", "twin e", "journal", "come", "use d", "same a"):
                    self.assert_error(console, wrong, errors.NotReady)

    def test_not_ready(self):
        console = Console()
        for text in (*QUESTIONS, "come", "leave 0", "tie 0 0", "untie 0 1", "draw 0 1", "move 0 0", "ease", "clear", "undo",
                     "begin", "keep", "drop", "use a", "twin a", "forget a", "same a"):
            self.assert_error(console, text, errors.NotReady)
        console.execute("web a a:")
        for text in ("use b", "forget b", "same b", "run show; use b", "run forget a; show"):
            self.assert_error(console, text, errors.NotReady)
        self.assertEqual(console.execute("show"), "a:")
        # A command of the right form comes first, then what must stand, then the text.
        self.assert_error(console, "use B", errors.InvalidCommand)
        self.assert_error(Console(), "web a x", errors.InvalidText, index=0)

    def test_errors_of_texts_and_deeds(self):
        console = Console()
        for text, index in (("x", 0), ("a", 1), ("a;", 1), ("c:ab,ab", 6), ("c:ab,", 5), ("c:ba", 3), ("c:cb", 2), (";", 0), ("c:\n", 2)):
            for word in ("web", "leaving"):
                self.assert_error(console, f"{word} a {text}", errors.InvalidText, index=index)
                self.assert_error(console, "show", errors.NotReady)
        self.assert_error(console, f"leaving b {RING}", errors.NotLeaving, ring=(0, 1, 2, 3))
        console.execute("leaving b d:ab,bc,cd")
        kept = self.all_told(console)
        for text, error in (("tie 0 3", errors.NotLeaving), ("tie 0 9", errors.InvalidPlace), ("tie 1 1", errors.InvalidPlace),
                            ("tie 0 1", errors.Refused), ("untie 0 2", errors.Refused), ("draw 0 3", errors.Refused),
                            ("come 1 0", errors.InvalidLot), ("come 0 0", errors.InvalidLot), ("come 9999", errors.InvalidLot),
                            ("come 0 3", errors.NotLeaving), ("move 0 4", errors.Refused), ("move 1 0", errors.Refused),
                            ("move 9 9", errors.InvalidPlace), ("ease", errors.Refused), ("undo", errors.NothingToUndo),
                            ("keep", errors.NoSpan), ("drop", errors.NoSpan), ("leave 4", errors.InvalidPlace),
                            (f"leaving b {RING}", errors.NotLeaving), ("web b x", errors.InvalidText)):
            self.assert_error(console, text, error)
            self.assertEqual(self.all_told(console), kept)
        console.execute(f"web w {web_text(bare_web(12))}")
        self.assert_error(console, "come", errors.TooMany, count=12)


class RunsTest(ConsoleCase):

    def test_all_is_taken_back(self):
        for wrong, error in (("tie 0 1", errors.Refused), ("use zz", errors.NotReady), ("web q x", errors.InvalidText),
                             ("leave 77", errors.InvalidPlace), (f"leaving q {RING}", errors.NotLeaving)):
            console = Console()
            console.execute("run web a c:ab; begin; tie 0 2; web b c:ab,bc; begin; come 0; use a")
            kept = {}
            for name in ("b", "a"):
                console.execute(f"use {name}")
                kept[name] = self.all_told(console)
            self.assert_error(console, f"run come 1; keep; use b; drop; forget b; web b a:; twin a; use b; {wrong}",
                              error if wrong != "tie 0 1" else errors.InvalidPlace)
            self.assert_error(console, f"run come 1; twin b; undo; undo; begin; {wrong}; keep", error)
            self.assert_error(console, f"run forget a; use b; forget b; web a c:ab; {wrong}", error)
            self.assertEqual(self.all_told(console), kept["a"])
            console.execute("use b")
            self.assertEqual(self.all_told(console), kept["b"])
            self.assert_error(console, "use q", errors.NotReady)
            self.assertEqual([console.execute("drop"), console.execute("use a"), console.execute("drop")], ["ok"] * 3)
            self.assertEqual(console.execute("journal"), "web a c:ab")

    def test_runs_of_64_commands(self):
        console = Console()
        text = "run web a e:; " + "; ".join(["tie 0 1", "untie 0 1", "begin", "keep", "journal", "lots"] * 10 + ["row"] * 3)
        self.assertEqual(len(text[4:].split("; ")), 64)
        told = console.execute(text).split("; ")
        self.assertEqual(told[:5], ["ok"] * 5)
        self.assertEqual(told[-1], "0 1 2 3 4")
        self.assert_error(console, text[:-5] + "; leave 9", errors.InvalidPlace)
        self.assertEqual(console.execute("where"), "5 20 0")

    def test_drawn_commands(self):
        for seed in range(14):
            chance = random.Random(seed)
            console, plain = Console(), Plain()
            for _ in range(110):
                text = self.some_command(chance, plain)
                if chance.randrange(5) == 0:
                    text = "run " + "; ".join([text] + [self.some_command(chance, plain) for _ in range(chance.randrange(5))])
                try:
                    answer = plain.execute(text)
                except errors.LeaveError as error:
                    self.assert_error(console, text, type(error), **vars(error))
                    continue
                self.assertEqual(console.execute(text), answer, text)

    def some_command(self, chance, plain):
        name = chance.choice(("a", "b", "c", "other"))
        live = plain.lives.get(plain.chosen)
        marks = [*(live.marks if live else (0,)), *(live.marks if live else ()), 44]
        mark, other = chance.choice(marks), chance.choice(marks)
        webs = ["c:ab", RING, "d:ab,bc,cd", "e:ab,ac,bc,cd,de", "a:", "e:ab,ae,bc,cd,de", "c:b"]
        some = [f"web {name} {chance.choice(webs)}", f"leaving {name} {chance.choice(webs)}", f"use {name}", f"twin {name}",
                f"same {name}", f"leave {mark}", f"move {mark} {chance.randrange(5)}", "ease", "clear", "undo", "begin", "keep",
                "drop", f"draw {mark} {other}", f"untie {mark} {other}"]
        some += [f"tie {mark} {other}"] * 4 + [f"come {mark}", "come"] + [f"come {' '.join(map(str, sorted({mark, other})))}"]
        some += [question for question in QUESTIONS if question != "paper"]
        if chance.randrange(12) == 0:
            some = [f"forget {name}"]
        return chance.choice(some)


class JournalTest(ConsoleCase):

    def test_the_journal_makes_an_equal_one(self):
        for seed in range(12):
            chance = random.Random(seed + 900)
            console, plain = Console(), Plain()
            case = RunsTest()
            for _ in range(60):
                text = case.some_command(chance, plain)
                try:
                    plain.execute(text)
                except errors.LeaveError:
                    continue
                console.execute(text)
            if plain.chosen is None:
                continue
            journal = console.execute("journal")
            other = Console()
            other.execute("run " + journal)
            self.assertEqual(other.execute("journal"), journal)
            for question in QUESTIONS:
                if question != "where":
                    self.assertEqual(other.execute(question), console.execute(question), question)
            self.assertEqual(console.execute(f"run twin zzzzzzzz; {journal}; same zzzzzzzz").split("; ")[-1], "yes")

    def test_consoles_do_not_share(self):
        one, other = Console(), Console()
        one.execute("web a c:ab")
        self.assert_error(other, "use a", errors.NotReady)
        other.execute("web a c:ab")
        other.execute("tie 0 2")
        self.assertEqual([one.execute("show"), other.execute("show")], ["c:ab", "c:ab,ac"])

    def test_twelve_places(self):
        console = Console()
        for name in ("a", "b", "c", "d", "e", "f", "g", "h"):
            console.execute(f"web {name} {web_text(ring_web(12))}")
            for _ in range(20):
                console.execute("run tie 0 2; untie 0 2; move 3 0")
        self.assertEqual(console.execute("where"), "12 60 0")
        self.assertEqual(len(console.execute("journal").split("; ")), 61)
        for web in (full_web(12), path_web(12)):
            console.execute(f"leaving a {web_text(web)}")
            self.assertEqual(console.execute("show"), web_text(web))


if __name__ == "__main__":
    unittest.main()

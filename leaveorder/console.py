"""The console: live webs stand by names, and commands, as texts, work on the chosen one."""

from leaveorder.bare_rounds import bare_ring
from leaveorder.commands import BETWEEN, command_of, commands_told, deed_told, rows_told, with_blanks
from leaveorder.deeds import DEEDS
from leaveorder.errors import InvalidCommand, NotReady
from leaveorder.leaving import first_order
from leaveorder.live import LeavingLive, Live
from leaveorder.paper_texts import paper_text
from leaveorder.webs import web_text, web_told


def web_stands(desk, name, text):
    """A Live of this web stands by the name, and is chosen."""
    desk.lives[name] = Live(web_told(text))
    desk.chosen = name


def leaving_stands(desk, name, text):
    """A LeavingLive of this web stands by the name, and is chosen."""
    desk.lives[name] = LeavingLive(web_told(text))
    desk.chosen = name


def use(desk, name):
    """The live web of this name is chosen."""
    desk.live_by(name)
    desk.chosen = name


def twin_stands(desk, name):
    """A twin of the chosen one stands by the name."""
    desk.lives[name] = desk.live_by(desk.chosen).twin()


def forget(desk, name):
    """No live web stands by the name any more."""
    desk.live_by(name)
    del desk.lives[name]
    if desk.chosen == name:
        desk.chosen = None


def same(desk, name):
    """Whether the chosen one equals that of the name."""
    live = desk.live_by(desk.chosen)
    return told_truth(live == desk.live_by(name))


def journal(desk):
    """The commands that make a live web that equals the chosen one."""
    live = desk.live_by(desk.chosen)
    word = "leaving" if isinstance(live, LeavingLive) else "web"
    head = f"{word} {desk.chosen} {web_text(live.start)}"
    return BETWEEN.join([head, *[command_of(deed) for deed in live.deeds]])


def undo(live):
    """The command of the deed that has been taken back."""
    return command_of(live.undo())


def begin(live):
    """A span is opened."""
    live.begin()


def keep(live):
    """The innermost span is ended, its deeds stand."""
    live.keep()


def drop(live):
    """The innermost span is ended, its deeds are taken back."""
    live.drop()


def show(live):
    """The text of the web."""
    return web_text(live.web)


def marks(live):
    """The marks."""
    return with_blanks(live.marks)


def row(live):
    """The row."""
    return with_blanks(live.row)


def puts(live):
    """The numbers of put-in ties behind 0, 1, .. deeds."""
    return with_blanks(live.puts())


def widths(live):
    """The widths of the row behind 0, 1, .. deeds."""
    return with_blanks(live.widths())


def filled(live):
    """The put-in ties."""
    return rows_told(live.put_in, "-")


def lots(live):
    """The whole lots of the web with the put-in ties."""
    return rows_told(live.lots(), "+")


def leavings(live):
    """Whether the web is a leaving one behind 0, 1, .. deeds."""
    return with_blanks([told_truth(told) for told in live.leavings()])


def where(live):
    """The numbers of places, of deeds and of open spans."""
    return with_blanks([len(live.marks), len(live.deeds), live.depth])


def paper(live):
    """The text of a paper that shows an order or a bare round."""
    ring = bare_ring(live.web)
    if ring is None:
        return paper_text(("order", live.web, first_order(live.web)))
    return paper_text(("ring", live.web, ring))


def told_truth(value):
    """The word for a truth."""
    return "yes" if value else "no"


# What works on all that stands, with the words behind the first one.
OF_THE_DESK = {
    "web": web_stands, "leaving": leaving_stands, "use": use, "twin": twin_stands, "forget": forget, "same": same,
    "journal": journal,
}
# What works on the chosen one, besides the deeds.
OF_THE_CHOSEN = {
    "undo": undo, "begin": begin, "keep": keep, "drop": drop, "show": show, "marks": marks, "row": row, "puts": puts,
    "widths": widths, "filled": filled, "lots": lots, "leavings": leavings, "where": where, "paper": paper,
}


class Desk:
    """A dict of live webs by their names, and the name of the chosen one, or None."""

    def __init__(self, lives, chosen):
        self.lives = lives
        self.chosen = chosen

    def live_by(self, name):
        """The live web of the name."""
        if name not in self.lives:
            raise NotReady("no live web stands there, or none is chosen")
        return self.lives[name]

    def answer(self, words):
        """The answer to the command with these words."""
        values = words[1:]
        if words[0] in OF_THE_DESK:
            action = OF_THE_DESK[words[0]]
            told = action(self, *values)
        elif words[0] in DEEDS:
            told = self.live_by(self.chosen).redo(deed_told(words))
        else:
            action = OF_THE_CHOSEN[words[0]]
            told = action(self.live_by(self.chosen))
        return "ok" if told is None else str(told)


class Console:
    """Live webs stand by names, one of them is chosen."""

    def __init__(self):
        self._desk = Desk({}, None)

    def execute(self, command):
        """The answer to the command."""
        commands = commands_told(command)
        if commands is None:
            raise InvalidCommand("a command is wanted, or a run of commands")
        # All is done to copies, which take the place of what stands here when no error has come.
        lives = self._desk.lives
        desk = Desk({name: lives[name].copied() for name in lives}, self._desk.chosen)
        answers = [desk.answer(words) for words in commands]
        self._desk = desk
        return BETWEEN.join(answers)

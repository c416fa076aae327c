"""Live webs: webs that deeds change, with a row in which their places leave."""

from leaveorder.checks import check_web
from leaveorder.deeds import first_state, is_deed_form, leaving_state, lots_of, numbers_of, put_in_of, state_behind
from leaveorder.errors import InvalidDeeds, LeaveError, NoSpan, NothingToUndo
from leaveorder.forms import is_list


class Live:
    """A web that deeds change, and a row of its marks."""

    def __init__(self, web):
        check_web(web)
        self.start = web
        self._states = [self._settled(first_state(web), "")]
        self._deeds = []
        self._spans = []
        self._show()

    def __eq__(self, other):
        if not isinstance(other, Live) or self.__class__.__name__ != other.__class__.__name__:
            return False
        return self.start == other.start and self._deeds == other._deeds

    @property
    def deeds(self):
        """The list of the deeds that stand."""
        return list(self._deeds)

    def come(self, marks):
        """A place comes, tied with these; the mark that it gets is returned."""
        return self.redo(("come", marks))

    def leave(self, mark):
        """The place goes."""
        return self.redo(("leave", mark))

    def tie(self, mark, other_mark):
        """The two are tied from now on."""
        return self.redo(("tie", mark, other_mark))

    def untie(self, mark, other_mark):
        """The two are no longer tied."""
        return self.redo(("untie", mark, other_mark))

    def draw(self, mark, other_mark):
        """The place of the mark goes into that of the other one."""
        return self.redo(("draw", mark, other_mark))

    def move(self, mark, number):
        """The mark is put into the row such that so many marks stand ahead of it."""
        return self.redo(("move", mark, number))

    def ease(self):
        """Marks side by side are exchanged as long as this gives fewer put-in ties; their number is returned."""
        return self.redo(("ease",))

    def clear(self):
        """The row becomes the first leaving order."""
        return self.redo(("clear",))

    def puts(self):
        """The list of the numbers of put-in ties behind 0, 1, .. deeds."""
        return [numbers_of(state)[0] for state in self._states]

    def widths(self):
        """The list of the widths of the row behind 0, 1, .. deeds."""
        return [numbers_of(state)[1] for state in self._states]

    def leavings(self):
        """The list of whether the web is a leaving one behind 0, 1, .. deeds."""
        return [numbers_of(state)[2] for state in self._states]

    def lots(self):
        """The ascending list of the whole lots of the web with the put-in ties, told by marks."""
        return lots_of(self._states[-1])

    def would(self, deed):
        """The tuple (number of put-in ties, width, whether a leaving web) that the deed would have as the next one."""
        return numbers_of(self._behind(deed)[0])

    def undo(self):
        """The last deed is taken back and returned."""
        if len(self._deeds) == self._begun():
            raise NothingToUndo("there is no deed to take back, or none in the open span")
        self._states.pop()
        deed = self._deeds.pop()
        self._show()
        return deed

    def begin(self):
        """A span is opened."""
        self._spans.append(len(self._deeds))
        self._show()

    def keep(self):
        """The innermost span is ended, its deeds stand."""
        self._check_span()
        self._spans.pop()
        self._show()

    def drop(self):
        """The innermost span is ended, its deeds are taken back."""
        self._check_span()
        begun = self._spans.pop()
        del self._deeds[begun:]
        del self._states[begun + 1:]
        self._show()

    def twin(self):
        """An independent one of the same class, with equal start and deeds, and no span."""
        return made_like(self, False)

    def copied(self):
        """A twin with the same open spans."""
        return made_like(self, True)

    def redo(self, deed):
        """The deed, told as in deeds, is done."""
        state, told = self._behind(deed)
        self._states.append(state)
        self._deeds.append(deed)
        self._show()
        return told

    def take_over(self, other, with_spans):
        """What came behind the start of the other one came behind this one's, too."""
        self._states = list(other._states)
        self._deeds = list(other._deeds)
        self._spans = list(other._spans) if with_spans else []
        self._show()

    def _behind(self, deed):
        """The tuple (state behind the deed, what it returns)."""
        if not is_deed_form(deed):
            raise InvalidDeeds(0)
        state, told = state_behind(self._states[-1], deed)
        return self._settled(state, deed[0]), told

    def _settled(self, state, name):
        """The state as it is kept behind the deed of this name."""
        return state

    def _begun(self):
        """How many deeds stood when the innermost open span was opened; 0 if there is none."""
        return self._spans[-1] if self._spans else 0

    def _check_span(self):
        """Raise NoSpan if no span is open."""
        if not self._spans:
            raise NoSpan("no span is open")

    def _show(self):
        """The fields tell the state that there is now."""
        self.web, self.marks, self.row, self.next_mark = self._states[-1]
        self.put_in = put_in_of(self._states[-1])
        self.depth = len(self._spans)


class LeavingLive(Live):
    """A live web that is a leaving web at all times."""

    def __init__(self, web):
        super().__init__(web)

    def _settled(self, state, name):
        """The state, with the first leaving order as row if its row is none."""
        return leaving_state(state, name)


def made_like(live, with_spans):
    """An independent one of the same class, with equal start and deeds, with or without the open spans."""
    made = LeavingLive(live.start) if isinstance(live, LeavingLive) else Live(live.start)
    made.take_over(live, with_spans)
    return made


def replay(web, deeds, *, leaving=False):
    """A Live, or a LeavingLive, of the web with these deeds."""
    live = LeavingLive(web) if leaving else Live(web)
    if not is_list(deeds):
        raise InvalidDeeds(0)
    for at, deed in enumerate(deeds):
        try:
            live.redo(deed)
        except LeaveError:
            raise InvalidDeeds(at) from None
    return live

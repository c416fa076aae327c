"""The errors of the package, all of them directly under LeaveError.

Those with a field keep in it the very value that they are made with.
"""


class LeaveError(ValueError):
    """Any error that the package raises of its own."""


class InvalidWeb(LeaveError):
    """A value is no web."""


class InvalidTie(LeaveError):
    """A value is no tie of the web."""


class InvalidPlace(LeaveError):
    """A value is no place, spot or mark that is there, or the same one twice."""


class InvalidLot(LeaveError):
    """A value is no lot of places, or not one of the kind that is wanted."""


class InvalidRow(LeaveError):
    """A value is no row of the kind that is wanted."""


class InvalidCount(LeaveError):
    """A value is no number of the kind that is wanted."""


class InvalidTree(LeaveError):
    """A value is no joining tree of the whole lots."""


class InvalidBranch(LeaveError):
    """A value is no branch between two whole lots."""


class InvalidHost(LeaveError):
    """A value is no host."""


class InvalidSpread(LeaveError):
    """A value is no spread of the host."""


class InvalidDyeing(LeaveError):
    """A value is no dyeing of the web with so many dyes."""


class InvalidDye(LeaveError):
    """A value is no dye, or the one that the place has."""


class InvalidWeights(LeaveError):
    """A value is no tuple of weights of the places."""


class InvalidTies(LeaveError):
    """A value is no ascending tuple of missing ties."""


class InvalidThicket(LeaveError):
    """A value is no thicket of the web."""


class InvalidStretches(LeaveError):
    """A value is no tuple of stretches."""


class InvalidTables(LeaveError):
    """A value is no table or no family of tables of the web."""


class InvalidCommand(LeaveError):
    """A value is no command of the console."""


class InvalidPaper(LeaveError):
    """A value is no paper."""


class Refused(LeaveError):
    """What is asked for cannot be done with these arguments."""


class NothingToUndo(LeaveError):
    """There is no deed that could be taken back."""


class NoSpan(LeaveError):
    """There is no span that could be ended."""


class NotReady(LeaveError):
    """There is no live web where one must stand."""


class InvalidText(LeaveError):
    """The first index characters of a text are the most that can begin a right one."""

    def __init__(self, index):
        super().__init__(f"no right text begins with more than {index} of its characters")
        self.index = index


class InvalidDeeds(LeaveError):
    """The deed at the index is none, or cannot be done."""

    def __init__(self, index):
        super().__init__(f"no deed that can be done at the index {index}")
        self.index = index


class TooMany(LeaveError):
    """There would be more than count, the bound that the function keeps."""

    def __init__(self, count):
        super().__init__(f"more than {count}")
        self.count = count


class NotShown(LeaveError):
    """A paper does not show what it says; count tells how far it holds."""

    def __init__(self, count):
        super().__init__(f"the paper does not hold beyond {count}")
        self.count = count


class NotLeaving(LeaveError):
    """The web has no leaving order: the ring is a bare round of it."""

    def __init__(self, ring):
        super().__init__(f"no leaving web, it has the bare round {ring}")
        self.ring = ring


class NotFilling(LeaveError):
    """The ties are no filling: the ring is a bare round of the web with them."""

    def __init__(self, ring):
        super().__init__(f"no filling, it leaves the bare round {ring}")
        self.ring = ring


class NotTied(LeaveError):
    """A lot is not tied: the two places of the tie are not."""

    def __init__(self, tie):
        super().__init__(f"these two places are not tied: {tie}")
        self.tie = tie


class NotApart(LeaveError):
    """A lot is not apart: it has both ends of the tie."""

    def __init__(self, tie):
        super().__init__(f"both ends of this tie are in the lot: {tie}")
        self.tie = tie


class NotParting(LeaveError):
    """A lot does not part two places: the way leads around it, if it is not ()."""

    def __init__(self, way):
        super().__init__(f"the lot does not part the two, this way is free: {way}")
        self.way = way


class NotTree(LeaveError):
    """A joining tree is no lot tree: the whole lots of the place are not joined."""

    def __init__(self, place):
        super().__init__(f"no lot tree, the whole lots of this place are not joined: {place}")
        self.place = place


class NotStretched(LeaveError):
    """A web has no stretches: the three are an apart three of it."""

    def __init__(self, three):
        super().__init__(f"no stretches, these three lie apart: {three}")
        self.three = three


class NotEven(LeaveError):
    """A web has no even order, as it has the claw."""

    def __init__(self, claw):
        super().__init__(f"no even order, the web has the claw {claw}")
        self.claw = claw


class NotAgreeing(LeaveError):
    """A family does not agree: the tables over the two whole lots differ."""

    def __init__(self, lots):
        super().__init__(f"the tables over these two whole lots do not agree: {lots}")
        self.lots = lots

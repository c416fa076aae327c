"""Live webs done over by the words of the document, on sets and lists: slow, and without the program."""

from itertools import combinations


class Wrong(Exception):
    """What the document calls an error, by its name; ring holds the web in which NotLeaving has a bare round."""

    def __init__(self, name, model=None):
        super().__init__(name)
        self.name = name
        self.model = model


PARAMETERS = {"come": 1, "leave": 1, "tie": 2, "untie": 2, "draw": 2, "move": 2, "ease": 0, "clear": 0}


class Model:

    def __init__(self, web, leaving):
        self.marks = list(range(web[0]))
        self.ties = {frozenset(tie) for tie in web[1]}
        self.row = list(self.marks)
        self.next_mark = web[0]
        self.leaving = leaving
        self.settle("")

    def copy(self):
        other = Model.__new__(Model)
        other.marks, other.ties, other.row = list(self.marks), set(self.ties), list(self.row)
        other.next_mark, other.leaving = self.next_mark, self.leaving
        return other

    def tied(self, x, y):
        return frozenset((x, y)) in self.ties

    def may_go(self, x, left):
        near = [y for y in left if self.tied(x, y)]
        return all(self.tied(y, z) for y, z in combinations(near, 2))

    def first_order(self):
        """The first leaving order; None if there is none."""
        left, order = list(self.marks), []
        while left:
            free = [x for x in left if self.may_go(x, left)]
            if not free:
                return None
            order.append(free[0])
            left.remove(free[0])
        return order

    def is_order(self, row):
        return all(self.may_go(x, row[at:]) for at, x in enumerate(row))

    def gone_by(self, row):
        """The put-in ties of the row, and its width."""
        ties, left, widest = set(self.ties), list(row), 0
        for x in row:
            left.remove(x)
            near = [y for y in left if frozenset((x, y)) in ties]
            widest = max(widest, len(near))
            ties |= {frozenset(pair) for pair in combinations(near, 2)}
        return sorted(tuple(sorted(tie)) for tie in ties - self.ties), widest

    def settle(self, name):
        if self.leaving:
            order = self.first_order()
            if order is None:
                raise Wrong("NotLeaving", self)
            if not self.is_order(self.row):
                if name == "move":
                    raise Wrong("Refused")
                self.row = order

    def told(self):
        ties, widest = self.gone_by(self.row)
        return (len(ties), widest, self.first_order() is not None)

    def lots(self):
        ties = self.ties | {frozenset(tie) for tie in self.gone_by(self.row)[0]}
        found = []
        for at, x in enumerate(self.row):
            found.append({x} | {y for y in self.row[at:] if frozenset((x, y)) in ties})
        return sorted({tuple(sorted(lot)) for lot in found if not any(lot < other for other in found)})

    def web(self):
        ties = [tuple(sorted(self.marks.index(x) for x in tie)) for tie in self.ties]
        return (len(self.marks), tuple(sorted(ties)))

    def check_mark(self, mark):
        if type(mark) is not int or mark not in self.marks:
            raise Wrong("InvalidPlace")

    def check_two(self, mark, other):
        self.check_mark(mark)
        self.check_mark(other)
        if mark == other:
            raise Wrong("InvalidPlace")

    def behind(self, deed):
        """The model behind the deed, and what it returns."""
        if type(deed) is not tuple or not deed or type(deed[0]) is not str or deed[0] not in PARAMETERS:
            raise Wrong("InvalidDeeds")
        if len(deed) != 1 + PARAMETERS[deed[0]]:
            raise Wrong("InvalidDeeds")
        other = self.copy()
        told = getattr(other, "do_" + deed[0])(*deed[1:])
        other.settle(deed[0])
        return other, told

    def do_come(self, marks):
        if type(marks) is not tuple or not all(type(x) is int and x in self.marks for x in marks):
            raise Wrong("InvalidLot")
        if list(marks) != sorted(set(marks)):
            raise Wrong("InvalidLot")
        if len(self.marks) == 12:
            raise Wrong("TooMany")
        mark = self.next_mark
        self.marks.append(mark)
        self.row.insert(0, mark)
        self.ties |= {frozenset((x, mark)) for x in marks}
        self.next_mark += 1
        return mark

    def drop_mark(self, mark):
        self.marks.remove(mark)
        self.row.remove(mark)
        self.ties = {tie for tie in self.ties if mark not in tie}

    def do_leave(self, mark):
        self.check_mark(mark)
        if len(self.marks) == 1:
            raise Wrong("Refused")
        self.drop_mark(mark)

    def do_tie(self, mark, other):
        self.check_two(mark, other)
        if self.tied(mark, other):
            raise Wrong("Refused")
        self.ties.add(frozenset((mark, other)))

    def do_untie(self, mark, other):
        self.check_two(mark, other)
        if not self.tied(mark, other):
            raise Wrong("Refused")
        self.ties.remove(frozenset((mark, other)))

    def do_draw(self, mark, other):
        self.check_two(mark, other)
        if not self.tied(mark, other):
            raise Wrong("Refused")
        self.ties |= {frozenset((x, other)) for x in self.marks if x != other and self.tied(x, mark)}
        self.drop_mark(mark)

    def do_move(self, mark, number):
        self.check_mark(mark)
        if type(number) is not int or number < 0:
            raise Wrong("InvalidCount")
        if number >= len(self.marks):
            raise Wrong("Refused")
        self.row.remove(mark)
        self.row.insert(number, mark)

    def do_ease(self):
        count = 0
        while True:
            many = len(self.gone_by(self.row)[0])
            for at in range(len(self.row) - 1):
                row = list(self.row)
                row[at], row[at + 1] = row[at + 1], row[at]
                if len(self.gone_by(row)[0]) < many:
                    self.row = row
                    count += 1
                    break
            else:
                if not count:
                    raise Wrong("Refused")
                return count

    def do_clear(self):
        order = self.first_order()
        if order is None:
            raise Wrong("NotLeaving", self)
        self.row = order

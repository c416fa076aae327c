"""Tables over whole lots, families that agree, their whole tables, and denials."""

from leaveorder.bare_rounds import bare_ring
from leaveorder.checks import check_lot, check_web
from leaveorder.errors import InvalidRow, InvalidTables, NotAgreeing, TooMany
from leaveorder.forms import is_int, is_tuple, is_within
from leaveorder.fractions_of import is_fraction, reduced, sums_of_fractions
from leaveorder.leaving import check_leaving
from leaveorder.lot_trees import first_tree
from leaveorder.webs import all_pairs
from leaveorder.whole_lots import whole_lots

MOST_ENTRY = 1000000
MOST_GIVEN_ENTRY = 1000
MOST_WITH_TABLE = 8
MOST_WITH_SUMS = 6
MOST_TORN = 10


def family_of(web, table):
    """The family of the sums of a table over all places."""
    check_web(web)
    check_few(web, MOST_WITH_TABLE)
    if not is_table_form(web[0], MOST_GIVEN_ENTRY, table):
        raise InvalidTables("a table over all places with entries from 0 to 1,000 is wanted")
    return tuple([sums_of(table, every_place(web), lot) for lot in whole_lots(web)])


def clash(web, tables):
    """The first tuple of indexes of two whole lots whose tables do not agree; None if the family agrees."""
    check_tables(web, tables)
    return clash_of(web, tables)


def whole_table(web, tables):
    """The whole table of the family, by a lot tree."""
    check_tables(web, tables)
    check_agreeing(web, tables)
    check_few(web, MOST_WITH_TABLE)
    return tuple(entries_of(web, tables))


def weight_at(web, tables, row):
    """The entry of the whole table at the row of values of all places."""
    check_tables(web, tables)
    if not is_tuple(row) or len(row) != web[0] or not all([is_within(value, 0, 1) for value in row]):
        raise InvalidRow("a tuple of a value, 0 or 1, for each place is wanted")
    check_agreeing(web, tables)
    number = 0
    for value in row:
        number = number << 1 | value
    return entries_of(web, tables)[number]


def sums_within(web, tables, lot):
    """The sums of the whole table over the lot."""
    check_tables(web, tables)
    check_lot(web, lot)
    check_agreeing(web, tables)
    if len(lot) > MOST_WITH_SUMS:
        raise TooMany(MOST_WITH_SUMS)
    indexes = indexes_within(every_place(web), lot)
    return tuple(sums_of_fractions(entries_of(web, tables), indexes, 1 << len(lot)))


def heaviest_row(web, tables):
    """The first row of values with the greatest entry of the whole table."""
    check_tables(web, tables)
    check_agreeing(web, tables)
    entries = entries_of(web, tables)
    best = 0
    for number, (top, bottom) in enumerate(entries):
        if top * entries[best][1] > entries[best][0] * bottom:
            best = number
    return values_of(web[0], best)


def is_whole_table(web, tables, value):
    """Whether any value is a whole table of the family."""
    check_tables(web, tables)
    check_few(web, MOST_WITH_TABLE)
    if not is_tuple(value) or len(value) != 1 << web[0] or not all([is_fraction(entry) for entry in value]):
        return False
    for table, lot in zip(tables, whole_lots(web)):
        sums = sums_of_fractions(value, indexes_within(every_place(web), lot), len(table))
        if sums != [(entry, 1) for entry in table]:
            return False
    return True


def is_denial(web, tables, value):
    """Whether any value is a denial of the family."""
    check_tables(web, tables)
    if not is_tuple(value) or [len(part) for part in value if is_tuple(part)] != [len(table) for table in tables]:
        return False
    if len(value) != len(tables) or not all([is_int(entry) for part in value for entry in part]):
        return False
    met = [0] * (1 << web[0])
    for part, lot in zip(value, whole_lots(web)):
        indexes = indexes_within(every_place(web), lot)
        met = [told + part[index] for told, index in zip(met, indexes)]
    weight = sum([entry * many for part, table in zip(value, tables) for entry, many in zip(part, table)])
    return min(met) >= 0 and weight < 0


def torn_family(web):
    """A family that agrees and has a denial; None of a leaving web."""
    ring = checked_ring(web)
    if ring is None:
        return None
    return tuple([torn_table(ring, lot) for lot in whole_lots(web)])


def torn_denial(web):
    """A denial of the family that torn_family tells; None of a leaving web."""
    ring = checked_ring(web)
    if ring is None:
        return None
    parts = []
    done = []
    for lot in whole_lots(web):
        held = tuple([place for place in ring if place in lot])
        if len(held) == 2 and held not in done:
            # Each row of values tears one of the ties of the round at least: it is counted in one whole lot for each
            # tie, and in the first of these less one for all.
            less = 0 if done else 1
            parts.append(tuple([int(is_torn(ring, lot, number)) - less for number in range(1 << len(lot))]))
            done.append(held)
        else:
            parts.append((0,) * (1 << len(lot)))
    return tuple(parts)


def check_few(web, most):
    """Raise TooMany if the web has more places than the most."""
    if web[0] > most:
        raise TooMany(most)


def check_tables(web, tables):
    """Raise the error of the first one of these that is wrong."""
    check_web(web)
    wholes = whole_lots(web)
    right = is_tuple(tables) and len(tables) == len(wholes)
    if not right or not all([is_table_form(len(lot), MOST_ENTRY, table) for lot, table in zip(wholes, tables)]):
        raise InvalidTables("a family of the web is wanted: a table over each whole lot")


def check_agreeing(web, tables):
    """Raise NotLeaving unless the web is a leaving one, then NotAgreeing unless the family agrees."""
    check_leaving(web)
    lots = clash_of(web, tables)
    if lots is not None:
        raise NotAgreeing(lots)


def checked_ring(web):
    """A bare round of what is a web of few places; None if there is none."""
    check_web(web)
    check_few(web, MOST_TORN)
    return bare_ring(web)


def is_table_form(count, most, value):
    """Whether the value is a table, of entries to the most, over a lot of so many places."""
    if not is_tuple(value) or len(value) != 1 << count or not all([is_within(entry, 0, most) for entry in value]):
        return False
    return any(value)


def every_place(web):
    """The lot of all places."""
    return tuple(range(web[0]))


def values_of(count, number):
    """The row of so many values with this number."""
    return tuple([number >> at & 1 for at in reversed(range(count))])


def indexes_within(lot, part):
    """The list that has, for each row of values of the lot, the number of the row of the part of it with these."""
    indexes = [0]
    for place in lot:
        if place in part:
            indexes = [index << 1 | value for index in indexes for value in (0, 1)]
        else:
            indexes = [index for index in indexes for _ in (0, 1)]
    return indexes


def sums_of(table, lot, part):
    """The sums of a table of the lot over the part of it."""
    sums = [0] * (1 << len(part))
    for entry, index in zip(table, indexes_within(lot, part)):
        sums[index] += entry
    return tuple(sums)


def common_places(wholes, i, j):
    """The lot of the places that the two whole lots have in common."""
    return tuple([place for place in wholes[i] if place in wholes[j]])


def clash_of(web, tables):
    """The first tuple of indexes of two whole lots whose tables do not agree; None if the family agrees."""
    wholes = whole_lots(web)
    for i, j in all_pairs(len(wholes)):
        common = common_places(wholes, i, j)
        if sums_of(tables[i], wholes[i], common) != sums_of(tables[j], wholes[j], common):
            return (i, j)
    return None


def entries_of(web, tables):
    """The list of the entries of the whole table of a family that agrees."""
    wholes, every = whole_lots(web), every_place(web)
    tops, bottoms = [1] * (1 << web[0]), [1] * (1 << web[0])
    for table, lot in zip(tables, wholes):
        tops = [top * table[index] for top, index in zip(tops, indexes_within(every, lot))]
    for i, j in first_tree(web):
        meet = common_places(wholes, i, j)
        sums = sums_of(tables[i], wholes[i], meet)
        bottoms = [bottom * sums[index] for bottom, index in zip(bottoms, indexes_within(every, meet))]
    return [reduced(top, bottom) if bottom else (0, 1) for top, bottom in zip(tops, bottoms)]


def is_torn(ring, lot, number):
    """Whether the values of the two places of the round that the lot has do not go with their tie.

    The values of two places next to one another in the round have to be equal, those of the last and the first unlike.
    """
    values = {place: value for place, value in zip(lot, values_of(len(lot), number))}
    held = [place for place in ring if place in values]
    return (values[held[0]] != values[held[1]]) != (held == [ring[0], ring[-1]])


def torn_table(ring, lot):
    """The table over the lot of the rows that go with the ties of the round, with 0 for all other places."""
    held = [place for place in ring if place in lot]
    entries = []
    for number in range(1 << len(lot)):
        outside = [value for place, value in zip(lot, values_of(len(lot), number)) if place not in held]
        torn = len(held) == 2 and is_torn(ring, lot, number)
        # All the sums are 2, and those over a place of the round (1, 1): so the tables agree.
        entries.append(0 if any(outside) or torn else 1 if held else 2)
    return tuple(entries)

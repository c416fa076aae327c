"""All leaving orders, by number, and in how many of them a place stands where."""

from leaveorder.by_number import number_of, row_at, ways_to_begin, ways_to_end
from leaveorder.checks import check_number, check_order, check_other_place, check_place, check_web
from leaveorder.masks import lot_of, leaver_table


def order_count(web):
    """How many leaving orders there are."""
    check_web(web)
    return ways_to_end(leaver_table(web))[0]


def nth_order(web, number):
    """The leaving order with this index; None if there are not so many."""
    check_web(web)
    check_number(number)
    return row_at(leaver_table(web), number)


def order_number(web, order):
    """The index of the leaving order."""
    check_web(web)
    check_order(web, order)
    return number_of(leaver_table(web), order)


def next_order(web, order):
    """The leaving order behind this one; None behind the last one."""
    return nth_order(web, order_number(web, order) + 1)


def index_counts(web, place):
    """The list that has, for each index, in how many leaving orders the place stands at it."""
    check_web(web)
    check_place(web, place)
    counts = [0] * web[0]
    for gone, many in enumerate(ways_with_next(web, place)):
        if many:
            counts[len(lot_of(gone))] += many
    return counts


def ahead_count(web, place, other_place):
    """In how many leaving orders the place stands ahead of the other place."""
    check_web(web)
    check_place(web, place)
    check_other_place(web, place, other_place)
    return sum([many for gone, many in enumerate(ways_with_next(web, place)) if not gone >> other_place & 1])


def ways_with_next(web, place):
    """The list that has, for each mask, in how many leaving orders just its places have gone when the place goes."""
    nexts = leaver_table(web)
    begins, ends = ways_to_begin(nexts), ways_to_end(nexts)
    return [begins[gone] * ends[gone | 1 << place] if free >> place & 1 else 0 for gone, free in enumerate(nexts)]

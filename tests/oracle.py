"""What the document says, done over by its words: slow, and without the program."""

from itertools import combinations, permutations


def tied(web, x, y):
    return (min(x, y), max(x, y)) in web[1]


def near(web, place):
    return tuple(other for other in range(web[0]) if other != place and tied(web, place, other))


def all_tied(web, lot):
    return all(tied(web, x, y) for x, y in combinations(lot, 2))


def none_tied(web, lot):
    return not any(tied(web, x, y) for x, y in combinations(lot, 2))


def leavers_among(web, lot):
    """The places of the lot that may leave when all others have gone."""
    return [place for place in lot if all_tied(web, [x for x in near(web, place) if x in lot])]


def ends_of_leaving(web, lot, seen=None):
    """All lots at which places that leave one by one can come to a stop, whichever choices are taken."""
    seen = {} if seen is None else seen
    if lot not in seen:
        ends = set()
        for place in leavers_among(web, lot):
            ends |= ends_of_leaving(web, tuple(x for x in lot if x != place), seen)
        seen[lot] = ends or {lot}
    return seen[lot]


def has_order(web):
    """Whether some choices let all places leave."""
    return () in ends_of_leaving(web, tuple(range(web[0])))


def joined(web, lot):
    if not lot:
        return False
    reached = {lot[0]}
    for _ in lot:
        reached |= {y for y in lot for x in reached if tied(web, x, y)}
    return len(reached) == len(lot)


def pieces(web, gone):
    """The joined lots of the places that are left which lie in no other joined lot."""
    places = [x for x in range(web[0]) if x not in gone]
    found = []
    while places:
        piece = {places[0]}
        while True:
            wider = piece | {y for y in places for x in piece if tied(web, x, y)}
            if wider == piece:
                break
            piece = wider
        found.append(tuple(sorted(piece)))
        places = [x for x in places if x not in piece]
    return sorted(found)


def steps(row):
    return [(row[at - 1], row[at]) for at in range(len(row))]


def goes_round(web, row):
    return (len(row) >= 4 and len(set(row)) == len(row) and all(0 <= x < web[0] for x in row)
            and all(tied(web, x, y) for x, y in steps(row)))


def across(web, row):
    return tuple(tie for tie in web[1] if tie[0] in row and tie[1] in row
                 and tie not in steps(row) and tie[::-1] not in steps(row))


def told_forms(row):
    """Those of the row's turns, both ways about, that are in the told form."""
    turns = [row[at:] + row[:at] for at in range(len(row))]
    turns += [turn[::-1] for turn in turns]
    return [turn for turn in turns if turn[0] == min(turn) and turn[1] < turn[-1]]


def rounds(web):
    """All rounds in the told form, those of fewer places first."""
    return [row for size in range(4, web[0] + 1) for row in permutations(range(web[0]), size)
            if row[0] == min(row) and row[1] < row[-1] and goes_round(web, row)]


def bare_rounds(web):
    return [row for row in rounds(web) if not across(web, row)]


def bare_lots(web):
    """The lots of the places of the bare rounds: each place has two neighbours there, and they are joined."""
    return [lot for size in range(4, web[0] + 1) for lot in combinations(range(web[0]), size)
            if all(len([y for y in lot if tied(web, x, y)]) == 2 for x in lot) and joined(web, lot)]


def ring_of(web, lot):
    """The bare round, in the told form, that goes through all places of such a lot."""
    row = [lot[0], min(y for y in lot if tied(web, lot[0], y))]
    while len(row) < len(lot):
        row.append([y for y in lot if tied(web, row[-1], y) and y not in row[-2:]][0])
    return tuple(row)


def stuck_lots(web):
    """All lots, in lot order, of one place or more none of whose places may leave."""
    return [lot for size in range(1, web[0] + 1) for lot in combinations(range(web[0]), size)
            if not leavers_among(web, lot)]


def text(web):
    letters = "abcdefghijkl"
    return letters[web[0] - 1] + ":" + ",".join(letters[x] + letters[y] for x, y in web[1])

"""Webs and values that several tests use."""

import random
from itertools import combinations


def pairs(count):
    return list(combinations(range(count), 2))


def all_webs(count):
    """All webs of so many places."""
    ties = pairs(count)
    return [(count, tuple(tie for at, tie in enumerate(ties) if number >> at & 1))
            for number in range(1 << len(ties))]


def some_webs(count, many, seed):
    """So many webs of the places, from few ties to nearly all, the same ones at each run."""
    chance = random.Random(seed * 100 + count)
    webs = []
    for at in range(many):
        share = 10 + 80 * at // many
        webs.append((count, tuple(tie for tie in pairs(count) if chance.randrange(100) < share)))
    return webs


def bare_web(count):
    return (count, ())


def full_web(count):
    return (count, tuple(pairs(count)))


def ring_web(count):
    return (count, tuple(sorted([(x, x + 1) for x in range(count - 1)] + [(0, count - 1)])))


def two_sided_web(count):
    """Each of the lower half tied with each of the upper half: the most bare rounds of four places."""
    half = count // 2
    return (count, tuple((x, y) for x in range(half) for y in range(half, count)))


def path_web(count):
    return (count, tuple((x, x + 1) for x in range(count - 1)))


def star_web(count):
    return (count, tuple((0, x) for x in range(1, count)))


def block_web(count, size):
    """Pieces of so many places each, all tied within."""
    return (count, tuple((x, y) for x, y in pairs(count) if x // size == y // size))


def parted_web(count, size):
    """Groups of so many places each, no ties within, all ties between them: the most whole lots of groups of three."""
    return (count, tuple((x, y) for x, y in pairs(count) if x // size != y // size))


def ways_web(inside):
    """Two places with ways of so many places between them: many least parting lots."""
    ties = []
    count = 2
    while count + inside <= 12:
        row = [0, *range(count, count + inside), 1]
        ties += [(min(step), max(step)) for step in zip(row, row[1:])]
        count += inside
    return (count, tuple(sorted(ties)))


def tied_twice(web, other):
    """The two webs side by side with all ties between them."""
    count = web[0] + other[0]
    ties = set(web[1]) | {(x + web[0], y + web[0]) for x, y in other[1]}
    return (count, tuple(sorted(ties | {(x, y) for x in range(web[0]) for y in range(web[0], count)})))


def leaving_webs(count, many, seed):
    """So many webs that can be left, from few ties to many: each place comes tied with a tied lot of those there."""
    chance = random.Random(seed * 1000 + count)
    webs = []
    for at in range(many):
        share = 30 + 70 * at // many
        name = list(range(count))
        chance.shuffle(name)
        lots_of = [[0]]
        for place in range(1, count):
            lot = chance.choice(lots_of)
            lots_of.append([x for x in lot if chance.randrange(100) < share] + [place])
        ties = {(min(name[x], name[lot[-1]]), max(name[x], name[lot[-1]])) for lot in lots_of for x in lot[:-1]}
        webs.append((count, tuple(sorted(ties))))
    return webs


def webs_of_twelve():
    """Webs of 12 places: drawn ones, and those with the most whole lots, least parting lots, lot trees."""
    six = some_webs(6, 5, 31) + [bare_web(6), full_web(6), ring_web(6), path_web(6), block_web(6, 3), parted_web(6, 2)]
    webs = some_webs(12, 12, 32) + leaving_webs(12, 16, 33)
    webs += [bare_web(12), full_web(12), ring_web(12), path_web(12), star_web(12), two_sided_web(12)]
    webs += [make(12, size) for make in (block_web, parted_web) for size in (2, 3, 4, 6)]
    webs += [ways_web(inside) for inside in (1, 2, 3, 5)]
    return webs + [tied_twice(web, other) for web in six for other in six[::3]]


def small_webs():
    """All webs of 1 to 4 places, and every third one of 5."""
    return [web for count in (1, 2, 3, 4) for web in all_webs(count)] + all_webs(5)[::3]


def large_webs():
    """Some webs of 6 to 12 places, and the edges among those of 12."""
    webs = [web for count in range(6, 13) for web in some_webs(count, 12, 1)]
    return webs + [bare_web(12), full_web(12), ring_web(12), two_sided_web(12), ring_web(7), two_sided_web(10)]


def lots(count):
    """All lots of so many places, in lot order."""
    return [lot for size in range(count + 1) for lot in combinations(range(count), size)]


def deep(kind, depth=40):
    value = kind([0])
    for _ in range(depth - 1):
        value = kind([value])
    return value


BIG = 10 ** 89 + 7

# No web, place, lot, row or tie of any web.
ODD_VALUES = [
    None, True, False, "", "a", "ab", "0", "b:ab", "(0, 1)", -1, -BIG, BIG, 12, 13,
    [], [0], [0, 1], [2, []], [4, [[0, 1]]], (None,), (True,), (False, True), ("a",), (0, "b"), (("a",),),
    (0, None), ([],), ([0], [1]), (0, [1]), (BIG,), (0, BIG), (-1, 0), (-BIG, 1),
    deep(tuple), deep(list), (deep(tuple),), (0, deep(list)), tuple([0] * 3000), [0] * 3000, tuple(range(3000)),
]


def all_hosts(count):
    """All hosts of so many spots."""
    return [(count, ties) for ties in combinations(pairs(count), count - 1) if reaches_all(count, ties)]


def reaches_all(count, ties):
    reached = {0}
    for _ in range(count):
        reached |= {spot for tie in ties for spot in tie if set(tie) & reached}
    return len(reached) == count


def some_hosts(count, many, seed):
    """So many hosts of the spots, the same ones at each run."""
    chance = random.Random(seed * 1000 + count)
    hosts = []
    for _ in range(many):
        name = list(range(count))
        chance.shuffle(name)
        ties = [tuple(sorted((name[spot], name[chance.randrange(spot)]))) for spot in range(1, count)]
        hosts.append((count, tuple(sorted(ties))))
    return hosts


def some_spread(host, places, seed):
    """A spread of the host of so many lots, the same one at each run."""
    chance = random.Random(repr((host, places, seed)))
    lots_told = []
    for _ in range(places):
        lot = {chance.randrange(host[0])}
        for _ in range(chance.randrange(2 * host[0])):
            tie = chance.choice(host[1]) if host[1] else (0, 0)
            if set(tie) & lot:
                lot |= set(tie)
        lots_told.append(tuple(sorted(lot)))
    return tuple(lots_told)

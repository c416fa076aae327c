"""Webs and values that several tests use."""

import random
from itertools import combinations


def pairs(count):
    return list(combinations(range(count), 2))


def all_webs(count):
    """All webs of so many places."""
    ties = pairs(count)
    return [(count, tuple(tie for at, tie in enumerate(ties) if number >> at & 1))
            for number in range(1 << len(ties))]


def some_webs(count, many, seed):
    """So many webs of the places, from few ties to nearly all, the same ones at each run."""
    chance = random.Random(seed * 100 + count)
    webs = []
    for at in range(many):
        share = 10 + 80 * at // many
        webs.append((count, tuple(tie for tie in pairs(count) if chance.randrange(100) < share)))
    return webs


def bare_web(count):
    return (count, ())


def full_web(count):
    return (count, tuple(pairs(count)))


def ring_web(count):
    return (count, tuple(sorted([(x, x + 1) for x in range(count - 1)] + [(0, count - 1)])))


def two_sided_web(count):
    """Each of the lower half tied with each of the upper half: the most bare rounds of four places."""
    half = count // 2
    return (count, tuple((x, y) for x in range(half) for y in range(half, count)))


def small_webs():
    """All webs of 1 to 4 places, and every third one of 5."""
    return [web for count in (1, 2, 3, 4) for web in all_webs(count)] + all_webs(5)[::3]


def large_webs():
    """Some webs of 6 to 12 places, and the edges among those of 12."""
    webs = [web for count in range(6, 13) for web in some_webs(count, 12, 1)]
    return webs + [bare_web(12), full_web(12), ring_web(12), two_sided_web(12), ring_web(7), two_sided_web(10)]


def lots(count):
    """All lots of so many places, in lot order."""
    return [lot for size in range(count + 1) for lot in combinations(range(count), size)]


def deep(kind, depth=40):
    value = kind([0])
    for _ in range(depth - 1):
        value = kind([value])
    return value


BIG = 10 ** 89 + 7

# No web, place, lot, row or tie of any web.
ODD_VALUES = [
    None, True, False, "", "a", "ab", "0", "b:ab", "(0, 1)", -1, -BIG, BIG, 12, 13,
    [], [0], [0, 1], [2, []], [4, [[0, 1]]], (None,), (True,), (False, True), ("a",), (0, "b"), (("a",),),
    (0, None), ([],), ([0], [1]), (0, [1]), (BIG,), (0, BIG), (-1, 0), (-BIG, 1),
    deep(tuple), deep(list), (deep(tuple),), (0, deep(list)), tuple([0] * 3000), [0] * 3000, tuple(range(3000)),
]

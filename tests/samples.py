"""Kitchens for the tests, and slow ways to find out what the program promises about them."""

import random
from fractions import Fraction
from math import gcd

from mixpace.dishes import Dish
from mixpace.errors import Beaten
from mixpace.kitchens import Kitchen
from mixpace.papers import paper
from mixpace.rows import first_lack, ring_lack, ring_mean

GREAT = 10**60
PIE = Dish("pie", [(0, "oven", 1), (1, "oven", 1)], first=3, second=1)
TART = Dish("tart", [(0, "oven", 1)], first=1, second=1)
# Its first need is not at beat 0, and its needs are not in the order of the tools of `range_kitchen`.
STEW = Dish("stew", [(1, "stove", 2), (1, "oven", 1), (3, "stove", 1)], first=-1, second=5)
ROAST = Dish("roast", [(0, "oven", 2), (1, "oven", 2), (2, "oven", 1)], first=2, second=-3)
LOSS = Dish("loss", [(0, "oven", 1)], first=-2, second=-1)


def oven(number=1, *menu):
    return Kitchen([("oven", number)], list(menu or [PIE, TART]))


def range_kitchen(stoves=3, ovens=1):
    return Kitchen([("stove", stoves), ("pot", 2), ("oven", ovens)], [STEW, TART])


def named_kitchens():
    """Kitchens of all kinds: without tools, without dishes, with closed tools, points, segments and polygons."""
    return [
        Kitchen([], []),
        Kitchen([("oven", 3)], []),
        Kitchen([("oven", 0), ("pot", 1)], [PIE]),
        oven(0),
        oven(),
        oven(2),
        oven(1, TART),
        oven(1, LOSS),
        oven(2, LOSS, TART),
        oven(1, Dish("nothing", [(0, "oven", 1)])),
        oven(3, ROAST, PIE),
        oven(2, ROAST << 2, PIE, PIE, ~PIE, LOSS),
        range_kitchen(),
        range_kitchen(4, 1),
        oven(1, Dish("high", [(0, "oven", 1)], second=7), Dish("low", [(2, "oven", 1)], second=-2)),
    ]


def random_kitchen(chance, beats):
    """A kitchen with needs at beats up to `beats`."""
    tools = [(name, chance.randint(0, 2)) for name in ["z", "b", "m"][: chance.randint(1, 3)]]
    menu = []
    for _ in range(chance.randint(1, 3)):
        needs = []
        for _ in range(chance.randint(1, 3)):
            needs.append((chance.randint(0, beats), chance.choice(tools)[0], chance.choice([1, 1, 2])))
        menu.append(Dish("dish", needs, first=chance.randint(-4, 4), second=chance.randint(-4, 4)))
    return Kitchen(tools, menu)


def random_kitchens(seed, many, least, most, beats=2):
    """So many kitchens that have from `least` to `most` reachable standings."""
    chance = random.Random(seed)
    kitchens = []
    while len(kitchens) < many:
        kitchen = random_kitchen(chance, beats)
        if len(graph_by_needs(kitchen, most) or []) >= least:
            kitchens.append(kitchen)
    return kitchens


def sample_kitchens(seed, many, most):
    """The named kitchens that are small enough, and random ones."""
    named = [kitchen for kitchen in named_kitchens() if graph_by_needs(kitchen, most) is not None]
    return named + random_kitchens(seed, many, 2, most)


def large_kitchens():
    """Kitchens with 80 to 100 reachable standings; two of them have 6 tools and 8 dishes."""
    tools = [(name, 1000) for name in "abcdef"]
    # Each of these keeps all other ones out for as long as it lasts.
    long = [
        Dish("long", [(beat, tool, 501 + k) for beat in range(9 + k) for tool in "abcd"], first=k * k, second=3 * k)
        for k in range(7)
    ]
    never = Dish("never", [(100, "e", 1), (40, "f", 1001)], first=10**12, second=10**12)
    short = [Dish("short", [(0, tool, 1)], first=k * k - 5, second=7 - 3 * k) for k, tool in enumerate("abcdefaf")]
    gaps = [
        with_gaps([0, 1, 4], 265, -667),
        with_gaps([0, 1, 2, 4, 5, 7, 8, 11, 14, 15, 17, 18], -489555523208, 89976096112),
        with_gaps([2, 5, 6, 7], 1, 1),
        with_gaps([0, 3, 5, 6, 10, 11, 12, 14, 18, 19, 20, 21, 23, 25], -694138, -124882),
    ]
    plain = [(name, number) for name, number in zip("abcdef", (2, 1, 1, 1, 1, 1))]
    return [
        Kitchen(tools, [*long, never]),
        Kitchen(plain, short),
        oven(1, Dish("slow", [(beat, "oven", 1) for beat in range(90)], first=10**12, second=-(10**12)), TART),
        oven(91, LOSS, TART, Dish("two", [(0, "oven", 2)], first=1, second=5)),
        oven(1, *gaps),
    ]


def with_gaps(beats, first, second):
    """A dish that needs the oven in these beats, between which others may have it."""
    return Dish("gaps", [(beat, "oven", 1) for beat in beats], first=first, second=second)


def graph_by_needs(kitchen, most=1000):
    """The reachable standings with the moves from each, or None if there are more than `most`.

    A standing is a sorted tuple of pairs (beat, tool), one for each piece of a tool that is in use.
    """
    limits = dict(zip(kitchen.tools, kitchen.numbers))
    graph = {}
    waiting = [()]
    while waiting:
        needs = waiting.pop()
        if needs in graph:
            continue
        graph[needs] = [(None, tuple((beat - 1, tool) for beat, tool in needs if beat > 0))]
        for index, dish in enumerate(kitchen.menu):
            more = [(beat, tool) for beat, tool, amount in dish.needs for _ in range(amount)]
            after = tuple(sorted([*needs, *more]))
            if all(after.count(need) <= limits[need[1]] for need in set(more)):
                graph[needs].append((index, after))
        waiting.extend(after for _, after in graph[needs])
        if len(graph) > most:
            return None
    return graph


def standing_of(kitchen, needs):
    """The standing, as the program writes it."""
    return tuple(tuple(needs.count((beat, tool)) for tool in kitchen.tools) for beat in range(kitchen.horizon))


def worth_of(bound, totals):
    """How far totals go beyond a bound; not above 0 if they do not."""
    return bound[0] * totals[0] + bound[1] * totals[1] - bound[2] * totals[2]


def legal_rows(kitchen, most):
    """All legal rows with at most so many windows, found by trying out windows."""
    windows = [()]
    for index in range(len(kitchen.menu)):
        windows = [(*window, many) for window in windows for many in range(fitting(kitchen, index) + 1)]
    rows = [[]]
    for row in rows:
        if len(row) < most:
            rows.extend([*row, window] for window in windows if first_lack(kitchen, [*row, window]) is None)
    return rows


def fitting(kitchen, index):
    """How many of this dish fit in one beat."""
    limits = dict(zip(kitchen.tools, kitchen.numbers))
    return min(limits[tool] // amount for _, tool, amount in kitchen.menu[index].needs)


def ring_means(kitchen, rows):
    """The means of those rows that are legal as rings."""
    return {ring_mean(kitchen, row) for row in rows if row and ring_lack(kitchen, row) is None}


def farthest(mixes, a, b):
    """The greatest a * x + b * y of all these mixes."""
    return max(Fraction(worth_of((a, b, 0), mix), mix[2]) for mix in mixes)


def holds(kitchen, bound):
    try:
        paper(kitchen, bound)
    except Beaten:
        return False
    return True


def divisor_of(numbers):
    divisor = 0
    for number in numbers:
        divisor = gcd(divisor, number)
    return divisor


def check_windows(case, row):
    """Checks that the row is a list of tuples of integers."""
    case.assertIs(type(row), list)
    for window in row:
        case.assertIs(type(window), tuple)
        case.assertEqual({type(number) for number in window} - {int}, set())


def check_ring(case, kitchen, ring, most=None):
    """Checks that the ring is legal and has at most `most` windows, or as many as there are reachable standings."""
    check_windows(case, ring)
    case.assertIsNone(ring_lack(kitchen, ring))
    case.assertLessEqual(len(ring), most or len(graph_by_needs(kitchen)))


def error_of(case, kind, question):
    """The attributes of the error of this kind that the question raises."""
    with case.assertRaises(kind) as caught:
        question()
    case.assertIs(type(caught.exception), kind)
    return vars(caught.exception)

"""Values for the tests, and slow ways to find by definition what the package finds fast."""

import random
from itertools import combinations, permutations

from graftbook.foresttext import read_forest

EVEN = (1, 1, 1, ())
FREE = (0, 0, 0, ())
SKEW = (2, 3, 4, (("a", "b", 1), ("b", "a", 9), ("b", "c", 0)))
DEAR = (1, 1, 3, ())
ALL_PRICES = (EVEN, FREE, SKEW, DEAR)

FULL_TEXTS = (
    "a,b,c,d,e,f,g,h,i,j,k,l",
    "a(b(c(d(e(f(g(h,i,j,k,l)))))))",
    "a(b(c,d),e(f,g)),h(i(j,k(l)))",
    "a(b,c(d,e(f,g(h,i(j,k(l))))))",
    "a(b(c(d(e,f),g),h),i),j(k,l)",
)
FULL = tuple(read_forest(text) for text in FULL_TEXTS)

LONG_WORD = "abcdefgh"
HUGE = 10 ** 400


def nested(depth, inner=()):
    """A value nested so deep in tuples."""
    value = inner
    for _ in range(depth):
        value = (value,)
    return value


def nested_lists(depth):
    value = []
    for _ in range(depth):
        value = [value]
    return value


# None of these is a forest, prices, a matching with pairs, a path, a step or a paper.
NOTHINGS = (
    True, False, None, 0, 1, -1, HUGE, "", "a", "abc", "a(b)", [], [[]], [None], (None,),
    (True,), ("a",), ("a", ()), (("a",),), (("a", (), ()),), (["a", ()],), (("a", []),),
    (("a", None),), (("A", ()),), (("", ()),), (("abcdefghi", ()),), (("a1", ()),),
    ((1, ()),), ((True, ()),), (((), ()),), (("a", (("b", [()]),)),), (("a", ("b", ())),),
    nested(59, None), nested(60), nested_lists(59), (1, 1, 1), [1, 1, 1, ()], (1, 1, True, ()),
    (1, 1, 1, []), (1, -1, 1, ()), (1, 1, 1, (), ()), (1, 1, 1, None), ("drop",), ((1, 2, 3),),
    ((0, True),), ((0, -1),), ([0, 0],),
)


def spoilt(value):
    """Copies of a value with one tuple, at any depth, made a list, or one part of a wrong kind."""
    if isinstance(value, tuple):
        yield list(value)
        yield value + (None,)
        for k, part in enumerate(value):
            for other in spoilt(part):
                yield value[:k] + (other,) + value[k + 1:]
    elif isinstance(value, str):
        for other in ("", "A", value + "-", "\u00e9", "abcdefghi", None, 0, True, (), [], (value,)):
            yield other
    else:
        for other in (True, False, None, "", "a", (), [value], (value,), str(value)):
            yield other


def kinds_are_plain(value):
    """Whether a value is made of tuples, integers, strings and None, or is True or False."""
    if value is True or value is False:
        return True
    return _is_plain(value)


def _is_plain(value):
    if type(value) is tuple:
        return all(_is_plain(part) for part in value)
    return value is None or type(value) in (int, str)


def random_forest(rng, size, words="abc", deepest=8):
    """A forest with so many nodes, by a random source of the test's own."""
    if size == 0:
        return ()
    first = rng.randint(1, size) if deepest > 1 else 1
    children = random_forest(rng, first - 1, words, deepest - 1)
    return ((rng.choice(words), children),) + random_forest(rng, size - first, words, deepest)


def random_pairs(seed, many, most):
    """Pairs of random forests of at most so many nodes."""
    rng = random.Random(seed)
    for _ in range(many):
        a = random_forest(rng, rng.randint(0, most))
        b = random_forest(rng, rng.randint(0, most))
        yield a, b


def random_prices(seed, words="abc"):
    rng = random.Random(seed)
    table = []
    for word in words:
        for other in words:
            if word != other and rng.random() < 0.5:
                table.append((word, other, rng.randint(0, 5)))
    return (rng.randint(0, 4), rng.randint(0, 4), rng.randint(0, 6), tuple(table))


def shapes(size):
    """All forests of so many nodes, each with the word a."""
    if size == 0:
        yield ()
        return
    for below in range(size):
        for children in shapes(below):
            for rest in shapes(size - 1 - below):
                yield (("a", children),) + rest


def slow_nodes(a, above=()):
    """The nodes in preorder, each as (word, path)."""
    found = []
    for place, (word, children) in enumerate(a):
        path = above + (place,)
        found.append((word, path))
        found.extend(slow_nodes(children, path))
    return found


def slow_over(a, i, k):
    above = slow_nodes(a)[i][1]
    below = slow_nodes(a)[k][1]
    return len(above) < len(below) and below[:len(above)] == above


def slow_is_matching(pairs, a, b):
    """The words of the document, for a tuple of pairs of nodes' numbers."""
    if any(p[0] >= q[0] for p, q in zip(pairs, pairs[1:])):
        return False
    if len({j for _, j in pairs}) != len(pairs):
        return False
    for i, j in pairs:
        for k, m in pairs:
            if (i < k) != (j < m) or slow_over(a, i, k) != slow_over(b, j, m):
                return False
    return True


def slow_matchings(a, b):
    size = len(slow_nodes(a))
    other = len(slow_nodes(b))
    found = []
    for many in range(min(size, other) + 1):
        for firsts in combinations(range(size), many):
            for seconds in permutations(range(other), many):
                pairs = tuple(zip(firsts, seconds))
                if slow_is_matching(pairs, a, b):
                    found.append(pairs)
    return sorted(found)


def slow_change(prices, word, other):
    if word == other:
        return 0
    return {(w, o): p for w, o, p in prices[3]}.get((word, other), prices[2])


def slow_price(words, others, prices, pairs):
    dropped = len(words) - len(pairs)
    added = len(others) - len(pairs)
    changes = sum(slow_change(prices, words[i], others[j]) for i, j in pairs)
    return prices[0] * dropped + prices[1] * added + changes


def slow_words(a):
    return [word for word, _ in slow_nodes(a)]


def slow_row_matchings(a, b):
    found = []
    for many in range(min(len(a), len(b)) + 1):
        for firsts in combinations(range(len(a)), many):
            for seconds in combinations(range(len(b)), many):
                found.append(tuple(zip(firsts, seconds)))
    return sorted(found)


def slow_part(a, kept):
    """The forest of some nodes of a, by their numbers; the children of the others stand in their places."""
    number = -1

    def part(row):
        nonlocal number
        found = ()
        for word, children in row:
            number += 1
            stays = number in kept
            below = part(children)
            found += ((word, below),) if stays else below
        return found

    return part(a)


def relabelled(a, words):
    """The forest with the shape of a and other words in preorder."""
    left = list(reversed(words))

    def row_of_words(row):
        return tuple((left.pop(), row_of_words(children)) for _, children in row)

    return row_of_words(a)


def unlike_words(many, first="a"):
    """So many words that are all unlike."""
    return [first + letter for letter in "abcdefghijklmnopqrstuvwxyz"[:many]]


def all_sets_of_pairs(size, other):
    """All sets of pairs of so many nodes each, in which no node stands twice, as ascending tuples."""
    for many in range(min(size, other) + 1):
        for firsts in combinations(range(size), many):
            for seconds in permutations(range(other), many):
                yield tuple(zip(firsts, seconds))


def slow_parents(a):
    """For each node the number of its parent, -1 for roots, by the paths."""
    paths = [path for _, path in slow_nodes(a)]
    return [paths.index(path[:-1]) if len(path) > 1 else -1 for path in paths]


FULL_PLOT_TEXTS = (
    "1a,2b,3c,4d,5e,6f,7g,8h,9i,10j,11k,12l",
    "12a(11b(10c(9d(8e(7f(6g(5h,4i,3j,2k,1l)))))))",
    "3a(1b(20c,5d),7e(2f,4g)),999999999h(8i(6j,10k(9l)))",
    "1a(2a,3a(4a,5a(6a,7a(8a,9a(100000000a(11a,12a))))))",
)

# None of these is a plot, a deed or a spot.
NO_PLOTS = NOTHINGS + (
    ((1, "a"),), ((1, "a", (), ()),), ((0, "a", ()),), ((-1, "a", ()),), ((True, "a", ()),), (("1", "a", ()),),
    ((None, "a", ()),), ((1, "", ()),), ((1, "A", ()),), ((1, "abcdefghi", ()),), ((1, None, ()),),
    ((1, "a", []),), ((1, "a", None),), ([1, "a", ()],), [(1, "a", ())], ((1, "a", ()), (1, "b", ())),
    ((1, "a", ((1, "b", ()),)),), ((1, "a", ((2, "b", ()),)), (2, "c", ())), (1, "a", ()), ("a", 1, ()),
    ((1, "a", ((2, "b", ()), (3, "c", [()]))),), ((1, "a", ("b",)),), ((1, "a", ((),)),), (("a", ()),),
)


def random_plot(rng, size, words="abc", deepest=8, marks=None):
    """A plot with so many spots, by a random source of the test's own."""
    left = rng.sample(marks or range(1, 2 * size + 3), size)

    def spots(row):
        return tuple((left.pop(), word, spots(children)) for word, children in row)

    return spots(random_forest(rng, size, words, deepest))


def random_plots(seed, many, most):
    rng = random.Random(seed)
    for _ in range(many):
        yield random_plot(rng, rng.randint(0, most))

"""Embeddings: matchings that find all of a forest, word by word, in another one."""

from graftbook.distances import forest_distance
from graftbook.forests import forest_rank, need_forests
from graftbook.matchings import all_matchings, goes_with, is_matching
from graftbook.nodes import nearest_kept, node_parents, node_sizes, node_words
from graftbook.numbers import forest_of
from graftbook.rows import EQUAL_ALONE


def embedding_of(a, b):
    """The first embedding of a in b by Python's order, None if there is none."""
    found = _embeddings(a, b)
    return found[0] if found else None


def count_embeddings(a, b):
    """The number of embeddings of a in b."""
    return len(_embeddings(a, b))


def _embeddings(a, b):
    """All embeddings of a in b, ascending."""
    need_forests(a, b)
    others = node_words(b)
    sizes = node_sizes(a)
    other_sizes = node_sizes(b)
    # As the sequence of nodes is kept, no more lists of pairs stand here at once
    # than there are ways to take so many of b's nodes.
    found = [()]
    for k, word in enumerate(node_words(a)):
        same = [m for m, other in enumerate(others) if other == word]
        pairs = [(k, m) for m in same]
        found = [way + (pair,) for way in found for pair in pairs if goes_with(way, pair, sizes, other_sizes)]
    return found


def embedding_holds(a, b, value):
    """Whether a value is an embedding of a in b."""
    need_forests(a, b)
    if not is_matching(value, a, b):
        return False
    return len(value) == len(node_words(a)) and _joins_equal_words(a, b, value)


def _joins_equal_words(a, b, pairs):
    words = node_words(a)
    others = node_words(b)
    return all(words[i] == others[j] for i, j in pairs)


def common_size(a, b):
    """The greatest number of pairs of a matching whose pairs join equal words."""
    need_forests(a, b)
    # Each pair of equal words saves a drop and an add, all other pairs cost more.
    spared = len(node_words(a)) + len(node_words(b)) - forest_distance(a, b, EQUAL_ALONE)
    return spared // 2


def common_forest(a, b):
    """The first, by forest_below, of the greatest forests that are embedded in both."""
    need_forests(a, b)
    size = common_size(a, b)
    greatest = [pairs for pairs in all_matchings(a, b) if len(pairs) == size and _joins_equal_words(a, b, pairs)]
    parts = [_part_of(a, [i for i, _ in pairs]) for pairs in greatest]
    return min(parts, key=forest_rank)


def _part_of(a, kept):
    """The forest of some nodes of a, the others dropped."""
    words = node_words(a)
    parents = node_parents(a)
    above = [nearest_kept(parents, kept, k) for k in kept]
    return forest_of([words[k] for k in kept], [kept.index(k) if k >= 0 else -1 for k in above])

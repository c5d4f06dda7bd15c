"""The nodes of a forest in preorder. These functions get forests alone and check nothing."""


def _listed(a):
    """The nodes in preorder, each as (word, number of its parent, place in its row)."""
    found = []
    ahead = [(a[place], -1, place) for place in reversed(range(len(a)))]
    while ahead:
        tree, parent, place = ahead.pop()
        word, children = tree
        number = len(found)
        ahead.extend([(children[k], number, k) for k in reversed(range(len(children)))])
        found.append((word, parent, place))
    return found


def node_words(a):
    """The words in preorder."""
    return tuple([word for word, _, _ in _listed(a)])


def node_parents(a):
    """For each node the number of its parent, -1 for roots."""
    return tuple([parent for _, parent, _ in _listed(a)])


def node_paths(a):
    """For each node its path."""
    paths = []
    for _, parent, place in _listed(a):
        above = paths[parent] if parent >= 0 else ()
        paths.append(above + (place,))
    return tuple(paths)


def node_depths(a):
    """For each node how many nodes lead down to it, itself included."""
    return tuple([len(path) for path in node_paths(a)])


def node_sizes(a):
    """For each node the number of nodes in its tree."""
    parents = node_parents(a)
    sizes = [1] * len(parents)
    for i in reversed(range(len(parents))):
        if parents[i] >= 0:
            sizes[parents[i]] += sizes[i]
    return tuple(sizes)


def node_posts(a):
    """For each node its number by postorder."""
    # Ahead of a node stand, in postorder, all that precede it in preorder less
    # its ancestors, and what is below it.
    sizes = node_sizes(a)
    depths = node_depths(a)
    return tuple([i + sizes[i] - depths[i] for i in range(len(sizes))])


def in_postorder(a, values):
    """Values that belong to the nodes in preorder, in the sequence of postorder."""
    placed = {}
    for post, value in zip(node_posts(a), values):
        placed[post] = value
    return tuple([placed[post] for post in range(len(placed))])


def leaf_numbers(a):
    """For each node, in postorder, the least postorder number in its tree."""
    sizes = in_postorder(a, node_sizes(a))
    return tuple([post - size + 1 for post, size in enumerate(sizes)])


def node_trees(a):
    """For each node its tree."""
    found = []
    ahead = list(a[::-1])
    while ahead:
        tree = ahead.pop()
        found.append(tree)
        ahead.extend(tree[1][::-1])
    return tuple(found)


def node_rows(a):
    """A dict of the numbers of each node's children, in order; those of the roots at -1."""
    parents = node_parents(a)
    rows = {}
    for above in range(-1, len(parents)):
        rows[above] = tuple([k for k, parent in enumerate(parents) if parent == above])
    return rows


def tree_size(tree):
    """The number of nodes of a tree."""
    return len(_listed((tree,)))


def nearest_kept(parents, kept, k):
    """The number of node k's nearest strict ancestor among those kept, -1 if there is none."""
    above = parents[k]
    while above >= 0 and above not in kept:
        above = parents[above]
    return above


def covers(sizes, i, k):
    """Whether node i is a strict ancestor of node k, by the sizes of the trees."""
    return i < k < i + sizes[i]

"""Plots, deeds and scripts for the tests, and slow ways to run them by definition."""

from itertools import combinations, permutations, product

NO_DEEDS = (
    None, True, 0, "", "drop", (), [], ("drop",), ("drop", 0), ("drop", -1), ("drop", True), ("drop", "1"),
    ("drop", None), ("drop", (1,)), ["drop", 1], ("drop", 1, 0), ("Drop", 1), (None, 1), (1, "drop"), ("drop", [1]),
    ("word", 1), ("word", 1, ""), ("word", 1, "A"), ("word", 1, "abcdefghi"), ("word", 1, None), ("word", 1, "a", 0),
    ("word", 0, "a"), ("word", "a", 1), ("word", 1, ("a",)), ("word", True, "a"), ("move", 1), ("move", 1, 0),
    ("move", 0, 0, 0), ("move", 1, -1, 0), ("move", 1, 0, -1), ("move", 1, True, 0), ("move", 1, 0, False),
    ("move", 1, None, 0), ("move", 1, 0, 0, 0), ("move", 1, "a", 0, 0), ("add", 1), ("add", 1, "a"),
    ("add", 1, "a", 0), ("add", 1, 0, 0), ("add", 1, "a", 0, 0, 0), ("add", 0, "a", 0, 0), ("add", -1, "a", 0, 0),
    ("add", 1, "", 0, 0), ("add", 1, "A", 0, 0), ("add", 1, "a", -1, 0), ("add", 1, "a", 0, -1),
    ("add", 1, "a", True, 0), ("add", 1, "a", 0, False), ("add", 1, "a", (0,), 0), ("add", True, "a", 0, 0),
    ("change", (0,), "a"), ("drop", (0,)), ("add", (0,), 1, "a"), ("swap", 1),
)


class Board:
    """A plot as a dict of words and one of rows, for running deeds slowly."""

    def __init__(self, t):
        self.words, self.rows = {}, {0: []}
        self.put(t, 0)

    def put(self, row, parent):
        for mark, word, children in row:
            self.rows[parent].append(mark)
            self.words[mark], self.rows[mark] = word, []
            self.put(children, mark)

    def plot(self, parent=0):
        return tuple((mark, self.words[mark], self.plot(mark)) for mark in self.rows[parent])

    def parent(self, m):
        return next(parent for parent, row in self.rows.items() if m in row)

    def tree(self, m):
        return {m}.union(*(self.tree(child) for child in self.rows[m]))

    def refusal(self, deed):
        kind, m = deed[:2]
        if (kind == "add") == (m in self.words):
            return "mark"
        if kind in ("add", "move"):
            parent, behind = deed[-2:]
            if parent not in self.rows:
                return "parent"
            if kind == "move" and parent in self.tree(m):
                return "inside"
            if behind != 0 and behind not in [mark for mark in self.rows[parent] if mark != m]:
                return "behind"
        if kind == "drop" and self.rows[m]:
            return "children"
        return None

    def run(self, deed):
        kind, m = deed[:2]
        if kind == "word":
            self.words[m] = deed[2]
        if kind in ("drop", "move"):
            self.rows[self.parent(m)].remove(m)
        if kind == "drop":
            del self.words[m], self.rows[m]
        if kind == "add":
            self.words[m], self.rows[m] = deed[2], []
        if kind in ("add", "move"):
            row = self.rows[deed[-2]]
            row.insert(row.index(deed[-1]) + 1 if deed[-1] else 0, m)


def all_deeds(marks):
    """All deeds with these marks, and 0, and the word x."""
    for m in marks:
        yield ("drop", m)
        yield ("word", m, "x")
        for parent, behind in product((0,) + marks, repeat=2):
            yield ("move", m, parent, behind)
            yield ("add", m, "x", parent, behind)


def slow_run(t, script):
    """The plot behind a script, or the number of the first deed that is refused and the reason."""
    board = Board(t)
    for k, deed in enumerate(script):
        reason = board.refusal(deed)
        if reason is not None:
            return (k, reason)
        board.run(deed)
    return board.plot()


def runs(t, script):
    """The plot behind a script, None if it cannot be run."""
    board = Board(t)
    for deed in script:
        if board.refusal(deed) is not None:
            return None
        board.run(deed)
    return board.plot()


def slow_both(t, p, q):
    """The plot of both orders of two scripts, None if they do not agree."""
    p, q = tuple(p), tuple(q)
    both = [runs(t, script) for script in (p, q, p + q, q + p)]
    return None if None in both or both[2] != both[3] else both[2]


def slow_corners(t, p, q):
    """A dict of the corners that are there, by the words of the document."""
    found = {(0, 0): t}
    for i in range(len(p)):
        found[i + 1, 0] = runs(t, p[:i + 1])
    for j in range(len(q)):
        found[0, j + 1] = runs(t, q[:j + 1])
    for i, j in product(range(len(p)), range(len(q))):
        if {(i, j), (i + 1, j), (i, j + 1)} <= set(found):
            plot = slow_both(found[i, j], (p[i],), (q[j],))
            if plot is not None:
                found[i + 1, j + 1] = plot
    return found


def slow_clash(t, p, q):
    if slow_both(t, p, q) is not None:
        return None
    there = set(slow_corners(t, p, q))
    for total in range(len(p) + len(q)):
        for i in range(total + 1):
            j = total - i
            if {(i, j), (i + 1, j), (i, j + 1)} <= there and (i + 1, j + 1) not in there:
                if i < len(p) and j < len(q):
                    return (p[i], q[j])
    raise AssertionError("scripts that do not agree and have all corners")


def slow_all(t, scripts):
    """The plot of all orders of several scripts, None if they do not agree."""
    plots = [runs(t, sum((tuple(script) for script in order), ())) for order in permutations(scripts)]
    return plots[0] if all(plot is not None and plot == plots[0] for plot in plots) else None


def slow_lot(t, scripts):
    lots = [lot for size in range(len(scripts) + 1) for lot in combinations(range(len(scripts)), size)]
    right = [lot for lot in lots if slow_all(t, [scripts[k] for k in lot]) is not None]
    return min(right, key=lambda lot: (-len(lot), lot))


def slow_orders(history):
    """All orders of a history: swaps of neighbours as long as new ones come."""
    history = tuple(history)
    found = {tuple(range(len(history)))}
    while True:
        further = set(found)
        for order in found:
            deeds = [history[i] for i in order]
            for k in range(len(order) - 1):
                if slow_both(runs((), deeds[:k]), (deeds[k],), (deeds[k + 1],)) is not None:
                    further.add(order[:k] + (order[k + 1], order[k]) + order[k + 2:])
        if further == found:
            return tuple(sorted(found))
        found = further


def random_deed(rng, marks, words="ab", kinds=("add", "drop", "move", "word")):
    """A deed with these marks, which may well be refused."""
    kind = rng.choice(kinds)
    m, parent, behind = rng.choice(marks), rng.choice((0,) + marks), rng.choice((0, 0) + marks)
    return {
        "add": ("add", m, rng.choice(words), parent, behind), "drop": ("drop", m),
        "move": ("move", m, parent, behind), "word": ("word", m, rng.choice(words)),
    }[kind]


def random_script(rng, t, most, marks, words="ab", kinds=("add", "drop", "move", "word")):
    """A script of up to so many deeds that can be run."""
    length = rng.randint(0, most)
    script = ()
    for _ in range(40 * length):
        deed = random_deed(rng, marks, words, kinds)
        if len(script) < length and runs(t, script + (deed,)) is not None:
            script += (deed,)
    return script


def spoilt_scripts(script, values):
    """Copies of a script with a value in place of each deed, each with the value that is wrong first."""
    for value in values:
        for k in range(len(script)):
            yield tuple(script[:k]) + (value,) + tuple(script[k + 1:]), value
            # A further one behind it is not told.
            yield list(script[:k]) + [value] + [None], value

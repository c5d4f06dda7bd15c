"""Books: versions of a plot, what was written with each, and merges of them."""

from graftbook.between import script_between
from graftbook.errors import InvalidNumber, Undefined
from graftbook.kinds import is_number
from graftbook.plottext import plot_text
from graftbook.scripts import run
from graftbook.threes import merged_three


class Book:
    """Versions with numbers; version 0 is the empty plot, every other one has parents."""

    def __init__(self):
        self.size = 1
        self._plots = [()]
        self._parents = [()]
        self._scripts = [()]

    def plot(self, v):
        """The plot of a version."""
        self._need_versions(v)
        return self._plots[v]

    def parents(self, v):
        """The numbers of a version's parents."""
        self._need_versions(v)
        return self._parents[v]

    def script(self, v):
        """The script that leads from a version's first parent to it."""
        self._need_versions(v)
        return self._scripts[v]

    def write(self, v, script):
        """Make a new version with the parent v by running a script; the result is its number."""
        self._need_versions(v)
        return self._added(run(self._plots[v], script), (v,), tuple(script))

    def elders(self, v):
        """The numbers of a version and of all its parents' elders, ascending."""
        self._need_versions(v)
        found = [v]
        # A version's parents have lesser numbers, so that all that brings k in comes ahead of it.
        for k in reversed(range(v + 1)):
            if k in found:
                found.extend(self._parents[k])
        return tuple(sorted(set(found)))

    def bases(self, v, w):
        """The common elders of two versions that are no elders of other common ones, ascending."""
        self._need_versions(v, w)
        others = self.elders(w)
        common = [k for k in self.elders(v) if k in others]
        older = [k for other in common for k in self.elders(other) if k != other]
        return tuple([k for k in common if k not in older])

    def merge(self, v, w):
        """Make a new version of two that are no elders of one another; the result is its number."""
        self._need_versions(v, w)
        if v in self.elders(w) or w in self.elders(v):
            raise Undefined("merge")
        base = self.bases(v, w)[-1]
        plot = merged_three(self._plots[base], self._plots[v], self._plots[w])
        return self._added(plot, (v, w), script_between(self._plots[v], plot))

    def text(self):
        """A line for each version but 0: its parents and the text of its plot."""
        lines = []
        for v in range(1, self.size):
            parents = "+".join([str(k) for k in self._parents[v]])
            lines.append(parents + " " + plot_text(self._plots[v]))
        return "\n".join(lines)

    def _need_versions(self, *versions):
        for v in versions:
            if not is_number(v) or v >= self.size:
                raise InvalidNumber(v)

    def _added(self, plot, parents, script):
        self._plots.append(plot)
        self._parents.append(parents)
        self._scripts.append(script)
        self.size += 1
        return self.size - 1

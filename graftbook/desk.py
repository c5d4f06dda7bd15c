"""The desk: values with names, claims with papers, and commands that can be undone."""

from graftbook.commands import names_asked, words_of
from graftbook.errors import InvalidCommand, NothingToUndo, UnknownName
from graftbook.makings import CLAIMING, claim_made, value_made, value_text
from graftbook.told import told


class Desk:
    """Names with values, and what was claimed, as the deeds that are not undone made them."""

    def __init__(self):
        self.claims = ()
        self.lines = ()
        # For each name the sort of its value and the value. The dict itself is never
        # changed: a deed puts another one in its place.
        self._names = {}
        # For each deed that is not undone the names and claims ahead of it, and for each
        # that can be done again its line and the names and claims behind it.
        self._ahead = []
        self._undone = []

    def run(self, line):
        """Do one command; the result is its answer, a text."""
        words = words_of(line)
        values = self._values_of(line, words)
        if words[0] == "show":
            return self._text_of(words[1])
        if words[0] == "names":
            return " ".join(sorted(self._names))
        if words[0] == "mark":
            return str(len(self.lines))
        if words[0] == "undo":
            return self._undo()
        if words[0] == "redo":
            return self._redo()
        if words[0] == "back":
            return self._back(int(words[1]))
        return self._do(line, words, values)

    def value(self, name):
        """The value of a name."""
        self._need_name(name)
        _, found = self._names[name]
        return found

    def _need_name(self, name):
        if not isinstance(name, str) or name not in self._names:
            raise UnknownName(name)

    def _text_of(self, name):
        sort, found = self._names[name]
        return value_text(sort, found)

    def _values_of(self, line, words):
        """The values of the names in a line that must have some."""
        asked = names_asked(words)
        for at, _ in asked:
            self._need_name(words[at])
        for at, sort in asked:
            if sort not in ("any", self._names[words[at]][0]):
                raise InvalidCommand(line, at)
        return [self.value(words[at]) for at, _ in asked]

    def _do(self, line, words, values):
        """Do a deed of the desk."""
        names = dict(self._names)
        claims = self.claims
        if words[0] in CLAIMING:
            claim, paper = claim_made(words[0], values)
            claims = claims + ((claim, paper),)
            answer = told(claim)
        elif words[0] == "drop":
            del names[words[1]]
            answer = ""
        else:
            sort, made = value_made(words, values)
            names[words[1]] = (sort, made)
            answer = value_text(sort, made)
        self._undone = []
        self._go_on(line, names, claims)
        return answer

    def _go_on(self, line, names, claims):
        """Put names and claims in the place of those there are, by a deed with this line."""
        self._ahead.append((self._names, self.claims))
        self._names = names
        self.claims = claims
        self.lines = self.lines + (line,)

    def _undo(self):
        if not self.lines:
            raise NothingToUndo("undo")
        line = self.lines[-1]
        self._undone.append((line, self._names, self.claims))
        self._names, self.claims = self._ahead.pop()
        self.lines = self.lines[:-1]
        return line

    def _redo(self):
        if not self._undone:
            raise NothingToUndo("redo")
        line, names, claims = self._undone.pop()
        self._go_on(line, names, claims)
        return line

    def _back(self, count):
        if count > len(self.lines):
            raise NothingToUndo("back")
        while len(self.lines) > count:
            self._undo()
        return ""


def replayed(lines):
    """A desk on which some lines were run in order."""
    desk = Desk()
    for line in lines:
        desk.run(line)
    return desk

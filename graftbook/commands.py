"""The lines of the desk: which words each command has."""

from graftbook.errors import InvalidCommand
from graftbook.kinds import FIGURES, is_word

SORTS = ("forest", "plot", "script", "prices")

# For each first word what stands behind it: a name that is given, a name with a value of
# any sort or of a certain one, a sort, figures, or all the rest of the line as a text.
FORMS = {
    "let": ("given", "sort", "text"),
    "distance": ("forest", "forest", "prices"),
    "loose": ("forest", "forest", "prices"),
    "alike": ("forest", "forest"),
    "embedded": ("forest", "forest"),
    "agree": ("plot", "script", "script"),
    "least": ("plot", "plot"),
    "script": ("given", "plot", "plot"),
    "apply": ("given", "plot", "script"),
    "merge": ("given", "plot", "script", "script"),
    "bare": ("given", "plot"),
    "common": ("given", "forest", "forest"),
    "show": ("any",),
    "names": (),
    "drop": ("any",),
    "undo": (),
    "redo": (),
    "mark": (),
    "back": ("count",),
}


def words_of(line):
    """The words of a line, its text as one of them; InvalidCommand if it has not the form of a command."""
    if not isinstance(line, str):
        raise InvalidCommand(line, 0)
    words = line.split(" ")
    if words[0] not in FORMS:
        raise InvalidCommand(line, 0)
    form = FORMS[words[0]]
    if "text" in form and len(words) > len(form):
        words = words[:len(form)] + [" ".join(words[len(form):])]
    for at, word in enumerate(words[1:], start=1):
        if at > len(form) or not _is_word_of(form[at - 1], word):
            raise InvalidCommand(line, at)
    if len(words) <= len(form):
        raise InvalidCommand(line, len(words))
    return words


def _is_word_of(kind, word):
    """Whether a word is of the kind that a form asks for at its place."""
    if kind == "text":
        return True
    if kind == "sort":
        return word in SORTS
    if kind == "count":
        return _is_count(word)
    return is_word(word)


def _is_count(word):
    """Whether a word is figures without a needless 0."""
    if word == "" or not all(sign in FIGURES for sign in word):
        return False
    return word == "0" or word[0] != "0"


def names_asked(words):
    """The numbers of the words that must be names with values, each with the sort that is asked, or any."""
    form = FORMS[words[0]]
    return [(at, kind) for at, kind in enumerate(form, start=1) if kind in SORTS or kind == "any"]

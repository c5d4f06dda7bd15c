"""The spots of a plot. These functions get plots alone and check nothing."""


def placed_spots(t):
    """A dict of the spots in preorder, by their marks: (word, parent, behind) as spot_at tells them."""
    found = {}
    _place_row(found, t, 0)
    return found


def _place_row(found, row, parent):
    """Add a row of spots, and all below it, to a dict of spots."""
    behind = 0
    for mark, word, children in row:
        found[mark] = (word, parent, behind)
        _place_row(found, children, mark)
        behind = mark


def row_marks(t, m):
    """The marks of the children of m in order, of the roots for 0."""
    spots = placed_spots(t)
    return tuple([mark for mark, (_, parent, _) in spots.items() if parent == m])


def spot_with(row, m):
    """The spot with the mark m, None if it is not there."""
    for spot in row:
        found = spot if spot[0] == m else spot_with(spot[2], m)
        if found is not None:
            return found
    return None


def without_spot(row, m):
    """A row of spots without the spot m and all below it."""
    return tuple([(mark, word, without_spot(children, m)) for mark, word, children in row if mark != m])


def with_spot(row, here, parent, behind, spot):
    """The children of the spot here, with one more spot as a child of parent just behind another one.

    Here is 0 for the roots; behind is 0 if the spot is to be the first of its row.
    """
    found = [spot] if here == parent and behind == 0 else []
    for mark, word, children in row:
        found.append((mark, word, with_spot(children, mark, parent, behind, spot)))
        if mark == behind:
            found.append(spot)
    return tuple(found)


def with_word(row, m, word):
    """A row of spots in which the spot m has a word."""
    return tuple([
        (mark, word if mark == m else old, with_word(children, m, word)) for mark, old, children in row
    ])

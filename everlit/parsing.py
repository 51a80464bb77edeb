"""What texts write: nets, layouts, moves and plans."""

from everlit.errors import ParseError
from everlit.layouts import Layout
from everlit.moves import FORMS
from everlit.nets import Net
from everlit.textrows import row_by, wrong_behind


def read_net(text):
    """The net that any value writes as a text."""
    return Net.read(text)


def read_layout(text):
    """The layout that any value writes as a text."""
    return Layout.read(text)


def read_move(text):
    """The move that any value writes as a text."""
    need_string(text)
    return move_in(text, 0)


def read_plan(text):
    """The tuple of the moves that any value writes as a text."""
    need_string(text)
    if text == "":
        return ()
    return tuple([move_in(told, line) for line, told in enumerate(text.split("\n"))])


def need_string(value):
    """Raises ParseError if any value is no string."""
    if not isinstance(value, str):
        raise ParseError(0, 0)


def move_in(told, line):
    """The move that a string writes, which stands in this line."""
    words = told.split(" ")
    if words[0] not in FORMS:
        raise ParseError(line, 0)
    forms = FORMS[words[0]]
    wrong = wrong_behind(forms, words)
    if wrong is not None:
        raise ParseError(line, wrong)
    return row_by(forms, words)

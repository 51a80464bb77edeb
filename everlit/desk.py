"""Desks: plants that are led by rows of text."""

from everlit.chains import least_band
from everlit.cuts import struck
from everlit.errors import Barred, ParseError, UnknownCommand
from everlit.formatting import layout_text, route_text
from everlit.orders import order_of
from everlit.parsing import read_layout, read_move
from everlit.plant import Plant
from everlit.rooms import room
from everlit.roomticks import soonest
from everlit.textrows import row_by, wrong_behind

# What stands behind the first word of a row that is no move.
FORMS = {
    "undo": (),
    "show": (),
    "order": (),
    "weight": (),
    "log": (),
    "room": ("name", "rate", "route"),
    "soon": ("name", "rate", "route"),
    "admit": ("name", "rate", "route"),
    "guard": ("name",),
    "cut": ("name",),
    "strikes": ("name",),
    "narrow": ("band",),
}


def command_in(row):
    """The tuple of the first word and the values behind it that any value writes as a row, or None."""
    if not isinstance(row, str):
        return None
    words = row.split(" ")
    if words[0] in FORMS and wrong_behind(FORMS[words[0]], words) is None:
        return row_by(FORMS[words[0]], words)
    try:
        return ("do", read_move(row))
    except ParseError:
        return None


def listed(words):
    """Words with spaces between, or a sign for none."""
    return " ".join(words) if len(words) > 0 else "-"


def barred_text(rows):
    """The answer that rows of items bar what is asked."""
    return " ".join(["barred"] + [row[0] for row in rows])


def say_do(plant, move):
    """The answer to a move, which is done."""
    plant.do(move)
    return "ok"


def say_undo(plant):
    """The answer to `undo`, which takes back the last call."""
    plant.undo()
    return "ok"


def say_show(plant):
    """The layout on one line."""
    return layout_text(plant.layout).replace("\n", " | ")


def say_order(plant):
    """The pairs of the order."""
    return listed([f"{lower}<{upper}" for lower, upper in order_of(plant.layout).pairs])


def say_weight(plant):
    """The least band."""
    return str(least_band(plant.layout))


def say_log(plant):
    """How many entries and hops the log has."""
    return f"{len(plant)} {plant.hops}"


def say_room(plant, name, rate, route):
    """The least place for a new signal, or what bars it."""
    answer = room(plant.layout, (name, route, rate))
    return f"room {answer[1]}" if answer[0] == "room" else barred_text(answer[1])


def say_soon(plant, name, rate, route):
    """The fewest ticks after which a new signal has room, and its place, or what bars it."""
    answer = soonest(plant.layout, (name, route, rate))
    return f"{answer[1]} {answer[2]}" if answer[0] == "soon" else barred_text(answer[1])


def say_admit(plant, name, rate, route):
    """The place of a new signal, which is begun, or what bars it."""
    try:
        return str(plant.admit(name, rate, route))
    except Barred as e:
        return barred_text(e.certificate)


def say_guard(plant, name):
    """The route of the reserve of a signal, which is set, or that it is barred."""
    try:
        return route_text(plant.protect(name))
    except Barred:
        return "barred"


def say_cut(plant, duct):
    """The signals that are dark behind the cut of a duct, which is done."""
    return listed(plant.cut(duct))


def say_strikes(plant, duct):
    """The signals that the cut of a duct would strike."""
    return listed(struck(plant.layout, duct))


def say_narrow(plant, band):
    """The fewest ticks to a lesser band, which is set, or a chain that is too heavy for it."""
    try:
        return str(plant.narrow(band))
    except Barred as e:
        return " ".join(["heavy", *e.certificate])


ANSWERS = {
    "do": say_do,
    "undo": say_undo,
    "show": say_show,
    "order": say_order,
    "weight": say_weight,
    "log": say_log,
    "room": say_room,
    "soon": say_soon,
    "admit": say_admit,
    "guard": say_guard,
    "cut": say_cut,
    "strikes": say_strikes,
    "narrow": say_narrow,
}


class Desk:
    """A plant that is led by rows of text."""

    def __init__(self, text):
        self.plant = Plant(read_layout(text))

    def say(self, row):
        """The answer to any value as a row."""
        command = command_in(row)
        if command is None:
            raise UnknownCommand(row)
        word, *worths = command
        answer = ANSWERS[word]
        return answer(self.plant, *worths)

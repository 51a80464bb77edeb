"""Moves: their form, when they are allowed, and what they change."""

from everlit.errors import InvalidLayout, NotAllowed
from everlit.kinds import is_item, is_name, reserve_of, twin_of
from everlit.layouts import Layout, layout_fault
from everlit.limits import MOST_FIBRES, MOST_SIGNALS, is_integer, is_within

# What stands behind the first word of a move.
FORMS = {
    "slide": ("item", "step"),
    "light": ("name", "route", "place"),
    "out": ("name",),
    "quit": ("name",),
    "move": ("name", "route", "place"),
    "guard": ("name", "route", "place"),
    "drop": ("name",),
    "begin": ("name", "rate", "route", "place"),
    "end": ("name",),
}


def is_move(value):
    """Whether any value has the form of a move."""
    if not isinstance(value, tuple) or value == () or not isinstance(value[0], str):
        return False
    if value[0] not in FORMS:
        return False
    forms = FORMS[value[0]]
    if len(value) != len(forms) + 1:
        return False
    return all([has_form(form, part) for form, part in zip(forms, value[1:])])


def has_form(form, value):
    """Whether any value can stand in a move as this."""
    if form == "item":
        return is_item(value)
    if form == "name":
        return is_name(value)
    if form == "step":
        return is_integer(value) and value in (1, -1)
    if form == "route":
        return looks_like_route(value)
    return is_within(form, value)


def looks_like_route(value):
    """Whether any value is a tuple of one to sixteen integers that can be numbers of fibres."""
    if not isinstance(value, tuple) or not 1 <= len(value) <= MOST_FIBRES:
        return False
    return all([is_within("fibre", index) for index in value])


def early_word(layout, move):
    """The word that bars any value as a move ahead of a look at what would result, or None."""
    if not is_move(move):
        return "form"
    word = move[0]
    name = move[1]
    if (name in layout) == (word == "begin"):
        return "item"
    if word == "light" and layout.doubled is not None:
        return "twin"
    if word in ("out", "quit") and layout.doubled != name:
        return "twin"
    if word in ("move", "drop") and reserve_of(name) not in layout:
        return "reserve"
    if word == "guard" and reserve_of(name) in layout:
        return "reserve"
    if word == "begin" and len(layout.rates) >= MOST_SIGNALS:
        return "many"
    return None


def parts_behind(layout, move):
    """The rates and the spots behind a move that no early word bars, be they a layout or not."""
    rates = layout.rates
    spots = layout.spots
    word = move[0]
    name = move[1]
    if word == "slide":
        spots[name] = (spots[name][0], spots[name][1] + move[2])
    if word == "light":
        spots[twin_of(name)] = move[2:]
    if word == "out":
        spots[name] = spots[twin_of(name)]
    if word in ("move", "guard"):
        spots[reserve_of(name)] = move[2:]
    if word == "begin":
        rates[name] = move[2]
        spots[name] = move[3:]
    if word == "end":
        rates.pop(name)
    for item in gone_items(word, name):
        spots.pop(item, None)
    return rates, spots


def gone_items(word, name):
    """The items that a move of this word takes away, if they are there."""
    if word in ("out", "quit"):
        return (twin_of(name),)
    if word == "drop":
        return (reserve_of(name),)
    if word == "end":
        return (name, twin_of(name), reserve_of(name))
    return ()


def barrier(layout, move):
    """None if any value is a move that is allowed, otherwise the first word that bars it."""
    word = early_word(layout, move)
    if word is not None:
        return word
    rates, spots = parts_behind(layout, move)
    fault = layout_fault(layout.net, layout.band, rates, spots)
    return None if fault is None else fault[0]


def done(layout, move):
    """The layout that results from any value as a move."""
    word = early_word(layout, move)
    if word is not None:
        raise NotAllowed(0, word)
    rates, spots = parts_behind(layout, move)
    try:
        return Layout(layout.net, layout.band, rates, spots)
    except InvalidLayout as e:
        raise NotAllowed(0, e.word) from None


def undone(layout, move):
    """The move that leads back from what any value as a move leads to, or None."""
    word = barrier(layout, move)
    if word is not None:
        raise NotAllowed(0, word)
    return move_back(layout, move)


def move_back(layout, move):
    """The move that leads back over one that is allowed, or None."""
    word = move[0]
    name = move[1]
    if word == "slide":
        return ("slide", name, -move[2])
    if word == "light":
        return ("quit", name)
    if word == "quit":
        return ("light", name, *layout[twin_of(name)])
    if word == "move":
        return ("move", name, *layout[reserve_of(name)])
    if word == "drop":
        return ("guard", name, *layout[reserve_of(name)])
    if word == "guard":
        return ("drop", name)
    if word == "begin":
        return ("end", name)
    if word == "end" and is_alone(layout, name):
        return ("begin", name, layout.rates[name], *layout[name])
    return None


def is_alone(layout, name):
    """Whether a signal has a light only."""
    return twin_of(name) not in layout and reserve_of(name) not in layout


def free_places(layout, word, name, route, *, rate=None):
    """The ascending tuple of the places with which a light, move, guard or begin move is allowed."""
    ahead = (word, name, rate, route) if word == "begin" else (word, name, route)
    return tuple([place for place in range(layout.band) if barrier(layout, (*ahead, place)) is None])

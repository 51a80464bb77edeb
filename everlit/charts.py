"""Charts of layouts and of ticks, as texts."""

from everlit.clashes import occupants
from everlit.formatting import route_text, step_text

# At most twelve lights, twelve reserves and a twin need one.
LETTERS = "ABCDEFGHIJKLMNOPQRSTUVWXYZ"


def chart(layout):
    """A text with the slots of each fibre, then the items with their letters."""
    letters = {item: LETTERS[at] for at, item in enumerate(layout.spots)}
    lines = [fibre_line(layout, letters, index) for index in range(len(layout.net))]
    return "\n".join(lines + [item_line(layout, item, letters[item]) for item in letters])


def fibre_line(layout, letters, index):
    """The line of a fibre."""
    signs = [slot_sign(letters, items) for items in occupants(layout, index)]
    slots = "".join(signs)
    return f"{index:>3} {slots}"


def slot_sign(letters, items):
    """The character of a slot that some items hold."""
    if items == ():
        return "."
    return letters[items[0]] if len(items) == 1 else "#"


def item_line(layout, item, letter):
    """The line of an item."""
    route, place = layout[item]
    return f"{letter} {item:<10}{place:>4}{layout.width(item):>5} {route_text(route)}"


def ticks_chart(ticks):
    """A text with a line for each tick of a list."""
    return "\n".join([tick_line(tick) for tick in ticks])


def tick_line(tick):
    """The line of a tick, whose steps come in any order."""
    return ", ".join([f"{item} {step_text(step)}" for item, step in sorted(tick)])

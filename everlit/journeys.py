"""The moves that do steps between states on layouts."""

from everlit.kinds import signal_of, twin_of
from everlit.orders import Order
from everlit.plans import after_moves
from everlit.routes import common
from everlit.slides import slides
from everlit.splices import pairs_renamed

# What the new place of a reserve is called beside the old one; no item is called so.
ELSEWHERE = " elsewhere"


def settled_moves(layout, order):
    """The list of the slides that lead to the lows of an order, of which that of the layout is a part."""
    lower = layout.placed({item: order.low(item) for item in layout.spots})
    return list(slides(layout, lower))


def step_moves(web, layout, band, step):
    """The list of the moves that do a step from the state of a layout."""
    word, item, route, _ = step
    name = signal_of(item)
    order = order_across(web, web.state_of(layout), band, step)
    moves = settled_moves(layout, order)
    if word in ("hop", "light"):
        moves.append(("light", name, route, order.low(twin_of(name))))
    if word in ("hop", "out"):
        moves.append(("out", name))
    if word == "quit":
        moves.append(("quit", name))
    if word == "move":
        moves.append(("move", name, route, order.low(item + ELSEWHERE)))
    return moves


def order_across(web, state, band, step):
    """The orders of both states of a step laid together, as an order that fits the band."""
    word, item, route, behind = step
    both = web.order_at(state) | order_renamed(web.order_at(behind), item, name_across(word, item))
    elder = {told: path for told, path in state[0]}
    if word != "hop" or common(elder[item], route) == ():
        return both
    twin = twin_of(item)
    under = both | Order(both.widths, [(twin, item)])
    return under if under.fits(band) else both | Order(both.widths, [(item, twin)])


def name_across(word, item):
    """What the item of a step in the state behind is called beside the items of the state ahead."""
    if word in ("hop", "out"):
        return twin_of(item)
    return item + ELSEWHERE if word == "move" else item


def order_renamed(order, old, new):
    """An order in which an item has another name."""
    names = {old: new}
    widths = {names.get(item, item): order.widths[item] for item in order.members}
    return Order(widths, pairs_renamed(order.pairs, old, new))


def journey(web, first, steps):
    """The list of the moves that do steps one after another from a layout on, and the layout behind."""
    layout = first
    found = []
    for step in steps:
        moves = step_moves(web, layout, first.band, step)
        layout = after_moves(layout, moves)
        found.extend(moves)
    return found, layout

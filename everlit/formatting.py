"""The texts of nets, layouts, moves and plans."""

from everlit.kinds import reserve_of, twin_of


def route_text(route):
    """A route as a word of a text."""
    return ",".join([str(index) for index in route])


def net_text(net):
    """The text of a net."""
    fibres = [f"fibre {one} {other} {length} {duct}" for one, other, length, duct in net.fibres]
    rows = [f"reach {length} {factor}" for length, factor in net.reach]
    return "\n".join(fibres + rows)


def layout_text(layout):
    """The text of a layout."""
    signals = [signal_text(layout, name) for name in layout.signals]
    return "\n".join([net_text(layout.net), f"band {layout.band}"] + signals)


def signal_text(layout, name):
    """The lines of a signal: its light, then its twin and its reserve if it has them."""
    rate = layout.rates[name]
    lines = [f"signal {name} {rate} {spot_text(layout[name])}"]
    for word, item in (("twin", twin_of(name)), ("reserve", reserve_of(name))):
        if item in layout:
            lines.append(f"{word} {name} {spot_text(layout[item])}")
    return "\n".join(lines)


def spot_text(spot):
    """A route and a place as words of a text."""
    route, place = spot
    return f"{route_text(route)} {place}"


def step_text(step):
    """A step as a word of a text."""
    return "up" if step == 1 else "down"


def move_text(move):
    """The text of a move."""
    if move[0] == "slide":
        return f"slide {move[1]} {step_text(move[2])}"
    words = [route_text(part) if isinstance(part, tuple) else str(part) for part in move]
    return " ".join(words)


def plan_text(moves):
    """The text of the moves of a list or tuple."""
    return "\n".join([move_text(move) for move in moves])

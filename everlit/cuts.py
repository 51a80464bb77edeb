"""Cuts of ducts: whom they strike, and who is lit behind them."""

from everlit.errors import NoDuct
from everlit.kinds import is_reserve, reserve_of, signal_of, twin_of
from everlit.layouts import Layout, layout_fault
from everlit.routes import ducts_of


def need_duct(net, value):
    """Raises NoDuct if any value is no duct of a net."""
    if value not in net.ducts:
        raise NoDuct(value)


def struck(layout, duct):
    """The ascending tuple of the signals that the cut of a duct strikes."""
    need_duct(layout.net, duct)
    return tuple([name for name in layout.signals if duct in layout.calls(name)])


def meets(layout, item, duct):
    """Whether an item meets a duct."""
    return duct in ducts_of(layout.net, layout[item][0])


def cut(layout, duct):
    """The items that are lit behind a cut, the signals that are switched and those that are dark."""
    names = struck(layout, duct)
    switched = tuple([name for name in names if reserve_of(name) in layout])
    dark = tuple([name for name in names if reserve_of(name) not in layout])
    lit = []
    for item in layout.spots:
        if is_reserve(item) and signal_of(item) in switched:
            lit.append(item)
        if not is_reserve(item) and not meets(layout, item, duct):
            lit.append(item)
    return (tuple(lit), switched, dark)


def cut_table(layout):
    """Yields each duct of the net with the signals that its cut switches and darkens."""
    for duct in layout.net.ducts:
        _, switched, dark = cut(layout, duct)
        yield (duct, switched, dark)


def worst_cuts(layout):
    """The ascending tuple of the ducts whose cut makes the most signals dark, if it makes any."""
    rows = [(duct, len(dark)) for duct, _, dark in cut_table(layout)]
    most = max([many for _, many in rows])
    return tuple([duct for duct, many in rows if many == most and most > 0])


def after_cut(layout, duct):
    """The layout behind a cut, and the signals whose reserves are gone without being lit."""
    _, switched, dark = cut(layout, duct)
    rates = {name: layout.rates[name] for name in layout.signals if name not in dark}
    spots = {}
    for name in rates:
        for item, spot in lit_behind(layout, duct, name, name in switched):
            spots[item] = spot
    dropped = []
    for name in rates:
        item = reserve_of(name)
        if item not in layout or name in switched:
            continue
        more = {**spots, item: layout[item]}
        if meets(layout, item, duct) or layout_fault(layout.net, layout.band, rates, more) is not None:
            dropped.append(name)
        else:
            spots = more
    return (Layout(layout.net, layout.band, rates, spots), tuple(dropped))


def lit_behind(layout, duct, name, is_switched):
    """The list of the lit items that a signal that is not dark has behind a cut, with their spots."""
    if is_switched:
        return [(name, layout[reserve_of(name)])]
    left = [item for item in (name, twin_of(name)) if item in layout and not meets(layout, item, duct)]
    # The first one that is left is the light; there is one, as no cut that strikes is meant here.
    return list(zip((name, twin_of(name)), [layout[item] for item in left]))

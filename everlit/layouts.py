"""Layouts: a net, a band, and signals with the routes and places of their items."""

from everlit.clashes import calls_among, marks_among, marks_clash
from everlit.errors import InvalidBand, InvalidLayout, NoItem, ParseError
from everlit.formatting import layout_text
from everlit.kinds import is_item, is_light, is_name, is_twin, reserve_of, signal_of, twin_of
from everlit.limits import MOST_SIGNALS, entries_of, is_integer, is_within
from everlit.nets import Net, net_parts
from everlit.orders import order_among
from everlit.routes import ducts_along, factor_for, length_along, path_of
from everlit.textrows import LAYOUT_HEADS, NET_HEADS, text_rows


def layout_fault(net, band, rates, spots):
    """The pair of the word and the item of the first fault, or None if there is none."""
    if not is_within("band", band):
        return ("band", None)
    if not are_rates(rates):
        return ("rates", None)
    if not isinstance(spots, dict) or not all([is_item(item) for item in spots]):
        return ("spots", None)
    return signal_fault(rates, spots) or twin_fault(spots) or spots_fault(net, band, rates, spots)


def are_rates(value):
    """Whether any value is a dict from names to rates, not too many."""
    if not isinstance(value, dict) or len(value) > MOST_SIGNALS:
        return False
    return all([is_name(name) and is_within("rate", value[name]) for name in value])


def signal_fault(rates, spots):
    """The fault of the least item whose signal has no rate or that is a missing light."""
    strange = [item for item in spots if signal_of(item) not in rates]
    missing = [name for name in rates if name not in spots]
    wrong = sorted(strange + missing)
    return ("signal", wrong[0]) if wrong else None


def twin_fault(spots):
    """The fault of the second twin."""
    twins = sorted([item for item in spots if is_twin(item)])
    return ("twin", twins[1]) if len(twins) > 1 else None


def spots_fault(net, band, rates, spots):
    """The first fault of the spots of items whose signals and twins are right, or None."""
    items = sorted(spots)
    paths = {item: path_at(net, spots[item]) for item in items}
    for item in items:
        if paths[item] == ():
            return ("route", item)
    routes = {item: spots[item][0] for item in items}
    factors = {item: factor_for(net, length_along(net, routes[item])) for item in items}
    for item in items:
        if factors[item] is None:
            return ("far", item)
    for item in items:
        path = paths[signal_of(item)]
        if paths[item][0] != path[0] or paths[item][-1] != path[-1]:
            return ("ends", item)
    slots = {}
    for item in items:
        place = spots[item][1]
        slots[item] = (place, place + rates[signal_of(item)] * factors[item])
    return place_fault(band, slots) or overlap_fault(marks_among(net, routes), slots)


def path_at(net, spot):
    """The path of any value that is a tuple of a route and an integer; () if it is none."""
    if not isinstance(spot, tuple) or len(spot) != 2 or not is_integer(spot[1]):
        return ()
    return path_of(net, spot[0])


def place_fault(band, slots):
    """The fault of the least item that holds slots outside of the band."""
    for item in slots:
        first, behind = slots[item]
        if first < 0 or behind > band:
            return ("place", item)
    return None


def overlap_fault(marks, slots):
    """The fault of the least reserve that meets its calls, or of the least item that overlaps one it clashes with.

    Slots tell the ascending items, marks what marks_among tells of them.
    """
    for item in slots:
        _, ducts, calls = marks[item]
        if calls is not None and ducts & calls != 0:
            return ("calls", item)
    items = list(slots)
    for at, one in enumerate(items):
        for other in items[at + 1:]:
            if share_slot(slots[one], slots[other]) and marks_clash(marks[one], marks[other]):
                return ("overlap", one)
    return None


def meets_own_call(net, routes, reserve):
    """Whether a reserve meets one of the calls of its signal, by a dict from the items to their routes."""
    calls = calls_among(net, routes, signal_of(reserve))
    return any([duct in calls for duct in ducts_along(net, routes[reserve])])


def share_slot(one, other):
    """Whether two pairs of a first slot and of the first one behind have a slot in common."""
    return one[0] < other[1] and other[0] < one[1]


def spots_in(rows):
    """The dict from the items to their spots that the rows of a text tell."""
    spots = {row[1]: row[3:] for row in rows if row[0] == "signal"}
    for row in rows:
        if row[0] == "twin":
            spots[twin_of(row[1])] = row[2:]
        if row[0] == "reserve":
            spots[reserve_of(row[1])] = row[2:]
    return spots


def are_alike(one, other):
    """Whether two layouts have the same net, band, rates, items and routes."""
    if one.net != other.net or one.band != other.band or one.rates != other.rates:
        return False
    if tuple(one.spots) != tuple(other.spots):
        return False
    return all([one[item][0] == other[item][0] for item in one.spots])


class Layout:
    """A layout, which never changes."""

    def __init__(self, net, band, rates, spots):
        fault = layout_fault(net, band, rates, spots)
        if fault is not None and fault[0] == "band":
            raise InvalidBand(band)
        if fault is not None:
            raise InvalidLayout(fault[0], fault[1])
        self._net = net
        self._band = band
        self._rates = {name: rates[name] for name in sorted(rates)}
        self._spots = {item: spots[item] for item in sorted(spots)}
        self._widths = {item: self._width_on(item, self._spots[item][0]) for item in self._spots}
        self._order = None

    def _width_on(self, item, route):
        """The width of an item on a route that is not too far."""
        return self._rates[signal_of(item)] * factor_for(self._net, length_along(self._net, route))

    @classmethod
    def read(cls, text):
        """The layout that a text writes."""
        rows = text_rows(text, LAYOUT_HEADS)
        if rows[-1][0] in NET_HEADS:
            raise ParseError(len(rows), 0)
        fibres, reach = net_parts(rows)
        bands = [row[1] for row in rows if row[0] == "band"]
        rates = {row[1]: row[2] for row in rows if row[0] == "signal"}
        return cls(Net(fibres, reach=reach), bands[0], rates, spots_in(rows))

    @property
    def net(self):
        """The net."""
        return self._net

    @property
    def band(self):
        """The number of slots."""
        return self._band

    @property
    def rates(self):
        """A new dict from the names of the signals to their rates."""
        return {name: self._rates[name] for name in self._rates}

    @property
    def spots(self):
        """A new dict from the items to the pairs of their route and place."""
        return {item: self._spots[item] for item in self._spots}

    @property
    def signals(self):
        """The ascending tuple of the names of the signals."""
        return tuple(self._rates)

    @property
    def doubled(self):
        """The name of the signal that has a twin, or None."""
        for item in self._spots:
            if is_twin(item):
                return signal_of(item)
        return None

    @property
    def order(self):
        """The order of the layout."""
        if self._order is None:
            self._order = order_among(self._net, self._widths, self._spots)
        return self._order

    def width(self, item):
        """The width of an item."""
        if item not in self:
            raise NoItem(item)
        return self._widths[item]

    def calls(self, name):
        """The ascending tuple of the calls of a signal."""
        if not is_name(name) or name not in self._rates:
            raise NoItem(name)
        routes = {item: self._spots[item][0] for item in self._spots}
        return calls_among(self._net, routes, name)

    def placed(self, places):
        """The layout in which the items of a dict have the places that it tells."""
        spots = self.spots
        for item in sorted(places):
            route, _ = self[item]
            spots[item] = (route, places[item])
        return Layout(self._net, self._band, self._rates, spots)

    def with_item(self, item, route, place, *, rate=None):
        """The layout with one item more, or with one item elsewhere."""
        rates = self.rates
        spots = self.spots
        spots[item] = (route, place)
        if rate is not None and is_light(item):
            rates[item] = rate
        return Layout(self._net, self._band, rates, spots)

    def without(self, *items):
        """The layout without these items; with a light its whole signal goes."""
        gone = entries_of(items)
        for item in gone:
            if item not in self:
                raise NoItem(item)
        rates = {name: self._rates[name] for name in self._rates if name not in gone}
        spots = {}
        for item in self._spots:
            if item not in gone and signal_of(item) not in gone:
                spots[item] = self._spots[item]
        return Layout(self._net, self._band, rates, spots)

    def in_band(self, band):
        """The same layout in another band."""
        return Layout(self._net, band, self._rates, self._spots)

    def mirrored(self):
        """The layout in which each place is counted from the other end of the band."""
        return self.placed({item: self._band - self._spots[item][1] - self._widths[item] for item in self._spots})

    def is_under(self, other):
        """Whether the other layout is alike and has no item at a lesser place."""
        if not are_alike(self, other):
            return False
        return all([self[item][1] <= other[item][1] for item in self._spots])

    def __len__(self):
        return len(self._spots)

    def __getitem__(self, item):
        if item not in self:
            raise NoItem(item)
        return self._spots[item]

    def __iter__(self):
        raise TypeError("a layout is not iterated over")

    def __contains__(self, item):
        return isinstance(item, str) and item in self._spots

    def __eq__(self, other):
        if not isinstance(other, Layout):
            return False
        if self._net != other._net or self._band != other._band:
            return False
        return self._rates == other._rates and self._spots == other._spots

    def __str__(self):
        return str(layout_text(self))

    def __repr__(self):
        return f"Layout(band {self._band}, {len(self._spots)} items)"

"""All placings, slides and ticks of small layouts, found by trying, for comparison with the program."""

import functools
import itertools

from everlit.routes import routes_between
from tests import oracle
from tests.samples import generator
from tests.test_layout_methods import random_layout


class Tried:
    """All layouts that are alike to one, each told by its places in the order of the items."""

    def __init__(self, layout):
        self.layout = layout
        self.items = sorted(layout.spots)
        self.start = self.places(layout)
        self.width = [layout.width(item) for item in self.items]
        self.clashes = {
            (at, to) for at, one in enumerate(self.items) for to, other in enumerate(self.items)
            if oracle.clash(layout.net, layout.spots, one, other)
        }

    @functools.cached_property
    def all(self):
        """The set of the places of all these layouts, by the last two conditions of [7]."""
        spans = [range(self.layout.band - width + 1) for width in self.width]
        return {places for places in itertools.product(*spans) if not any(
            places[at] < places[to] + self.width[to] and places[to] < places[at] + self.width[at]
            for at, to in self.clashes)}

    def at(self, places):
        """The layout with these places."""
        return self.layout.placed(self.by_item(places))

    def places(self, layout):
        return tuple(layout[item][1] for item in self.items)

    def by_item(self, places):
        return dict(zip(self.items, places))

    def slid(self, places):
        """What one slide leads to."""
        for at, place in enumerate(places):
            for step in (1, -1):
                after = places[:at] + (place + step,) + places[at + 1:]
                if after in self.all:
                    yield after

    def ticked(self, places):
        """What one tick leads to [12]."""
        for steps in itertools.product((-1, 0, 1), repeat=len(places)):
            if self.is_tick(places, steps):
                yield tuple(place + step for place, step in zip(places, steps))

    def is_tick(self, places, steps):
        slots = {}
        for at, step in enumerate(steps):
            if step:
                slots[at] = places[at] + self.width[at] if step == 1 else places[at] - 1
        for at, slot in slots.items():
            if not 0 <= slot < self.layout.band:
                return False
            for other in range(len(places)):
                if (at, other) in self.clashes:
                    if places[other] <= slot < places[other] + self.width[other] or slots.get(other) == slot:
                        return False
        return True

    def far(self, after):
        """The dict from all places that are reached to the least number of times `after` is needed."""
        found = {self.start: 0}
        row = [self.start]
        for places in row:
            for further in after(places):
                if further not in found:
                    found[further] = found[places] + 1
                    row.append(further)
        return found


def tried(seed, many, items=(2, 4), band=(3, 6), clashing=True):
    """Small layouts of some items in small bands, with all that is alike to them."""
    rng = generator(seed)
    count = 0
    while count < many:
        layout = random_layout(rng, rng.randint(*band))
        if not items[0] <= len(layout) <= items[1] or layout.band ** len(layout) > 1500:
            continue
        found = Tried(layout)
        if clashing and not found.clashes:
            continue
        count += 1
        yield found


def shaken(rng, found):
    """Any of the layouts that slides lead to, for a start that is not tight at the low end only."""
    return found.at(rng.choice(sorted(found.far(found.slid))))


def random_wish(rng, layout, most_rate=3):
    """A wish for a layout that may be wrong in its route, its ends, its calls or its reach."""
    net = layout.net
    routes = every_route(net)
    kind = rng.choice(["light", "twin", "reserve", "reserve"]) if layout.signals else "light"
    if kind == "light":
        return (rng.choice(["new", "aa", "z"]), rng.choice(routes), rng.randint(1, most_rate))
    name = rng.choice(layout.signals)
    return (name + {"twin": "+", "reserve": "*"}[kind], rng.choice(routes), None)


def every_route(net):
    """All routes of a net."""
    pairs = itertools.combinations(net.stations, 2)
    return [route for one, other in pairs for route in routes_between(net, one, other)]


def with_wish(layout, spots, wish, place):
    """The rates and spots of a layout with these spots and a wished item."""
    item, route, rate = wish
    rates = dict(layout.rates)
    if rate is not None:
        rates[item] = rate
    return rates, {**spots, item: (route, place)}


def spots_at(found, places):
    """The spots of the items at these places."""
    return {item: (found.layout[item][0], place) for item, place in zip(found.items, places)}


def kinds_spoiled(value):
    """Values that are equal or alike to a tuple and yet of other kinds: lists, True for 1, a part more or less."""
    yield list(value)
    yield value + (None,)
    yield value + value[-1:]
    yield value[:-1]
    for at, part in enumerate(value):
        ahead, behind = value[:at], value[at + 1:]
        yield ahead + behind
        yield ahead + ([part],) + behind
        yield ahead + (None,) + behind
        if part == 1 and type(part) is int:
            yield ahead + (True,) + behind
        if part == 0 and type(part) is int:
            yield ahead + (False,) + behind
        if isinstance(part, tuple):
            for other in kinds_spoiled(part):
                yield ahead + (other,) + behind

"""Lowest and highest places of items, tick by tick, and the width chains that tell them.

Upwards the same holds as downwards, if places are counted from the other end of the band and each pair
is turned: then the highest places are the lowest ones.
"""

from everlit.chaincheck import chain_weight


def falls_down(layout):
    """The falls of the items of a layout."""
    order = layout.order
    spots = layout.spots
    return Falls({item: spots[item][1] for item in spots}, order.widths, order.lowers)


def falls_up(layout):
    """The falls of the items of a layout towards the other end of the band, from which places are counted."""
    order = layout.order
    return Falls(places_from_top(layout), order.widths, order.uppers)


def places_from_top(layout):
    """The dict from the items of a layout to their places, counted from the other end of the band."""
    spots = layout.spots
    return {item: from_top(layout, item, spots[item][1]) for item in spots}


def from_top(layout, item, place):
    """A place of an item, counted from the other end of the band than it is told."""
    return layout.band - layout.width(item) - place


class Falls:
    """The lowest places of items after any number of ticks, by their places, widths and lower items."""

    def __init__(self, places, widths, lowers):
        self._places = places
        self._widths = widths
        self._lowers = lowers
        self._lows = {}
        # From some tick on an item that has not come to its low falls straight from its head.
        self._heads = {}
        many = self._weigh()
        self._rows = [places]
        for _ in range(many):
            self._rows.append(self._lowered(self._rows[-1]))

    def _weigh(self):
        """Works out lows and heads; returns how many items at most lie one below the other below one."""
        depths = {}
        for _, item in sorted([(self._places[item], item) for item in self._places]):
            lowers = self._lowers[item]
            tops = [self._lows[lower] + self._widths[lower] for lower in lowers]
            waits = [self._heads[lower] + self._widths[lower] + 1 for lower in lowers]
            self._lows[item] = max(tops, default=0)
            self._heads[item] = max([self._places[item]] + waits)
            depths[item] = max([depths[lower] + 1 for lower in lowers], default=0)
        return max(list(depths.values()), default=0)

    def _lowered(self, row):
        """The lowest places one tick after those of a row."""
        found = {}
        for item in row:
            tops = [row[lower] + self._widths[lower] for lower in self._lowers[item]]
            found[item] = max([0, row[item] - 1] + tops)
        return found

    def after(self, ticks):
        """The dict from each item to its lowest place after so many ticks."""
        if ticks < len(self._rows):
            row = self._rows[ticks]
            return {item: row[item] for item in row}
        return {item: max(self._lows[item], self._heads[item] - ticks) for item in self._places}

    def ticks_to(self, aims):
        """The least number of ticks after which no lowest place is above the aim of its item.

        No aim is below the low of its item.
        """
        for ticks, row in enumerate(self._rows):
            if all([row[item] <= aims[item] for item in row]):
                return ticks
        return max([len(self._rows)] + [self._heads[item] - aims[item] for item in aims])

    def longest(self):
        """The least number of ticks from which on no lowest place changes."""
        return self.ticks_to(self._lows)

    def width_chain(self, item, ticks):
        """A width chain of an item whose bound for so many ticks is its lowest place."""
        found = [item]
        for left in range(ticks, 0, -1):
            # What waits at an item waits there to the end, as an item below would have told as much.
            told = self.after(left)[found[-1]]
            before = self.after(left - 1)
            pushing = [lower for lower in self._lowers[found[-1]] if before[lower] + self._widths[lower] == told]
            if not pushing:
                break
            found.append(pushing[0])
        return tuple(found)


def leads_down(order, value):
    """Whether any value is a tuple of items each of which is directly above the next one."""
    return isinstance(value, tuple) and chain_weight(order, value[::-1]) is not None


def leads_up(order, value):
    """Whether any value is a tuple of items each of which is directly below the next one."""
    return chain_weight(order, value) is not None


def weight_behind(layout, items):
    """The sum of the widths of the items behind the first one."""
    return sum([layout.width(item) for item in items[1:]])


def chain_bound(layout, items, ticks, place):
    """The bound of a width chain for so many ticks; the place is that of its last item."""
    waits = ticks - (len(items) - 1)
    return weight_behind(layout, items) + max(0, place - waits)

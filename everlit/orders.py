"""Orders: items with widths and pairs (lower, upper) of them; the order of a layout."""

from everlit.clashes import pairs_clashing
from everlit.errors import Circular, NoItem, Unlike
from everlit.limits import entries_of, is_integer
from everlit.links import heaviest_along, links_of, ranked, reached, ring_beside, weights_along


def is_among(value, widths):
    """Whether any value is an item of a dict from items to widths."""
    return isinstance(value, str) and value in widths


class Order:
    """Items with widths and pairs of them, which never change."""

    def __init__(self, widths, pairs=()):
        for pair in pairs:
            for item in pair:
                if not is_among(item, widths):
                    raise NoItem(item)
        self._widths = {item: widths[item] for item in sorted(widths)}
        self._pairs = {pair: True for pair in sorted(set(pairs))}
        self._uppers = links_of(self._widths, self._pairs)
        self._lowers = links_of(self._widths, [(upper, lower) for lower, upper in self._pairs])
        ranks = ranked(self._lowers, self._uppers)
        self._ring = ring_beside(self._lowers, ranks)
        # With a ring no chain need be the heaviest one, so no weights are kept.
        row = ranks if self._ring is None else []
        self._up = weights_along(self._widths, self._uppers, row[::-1])
        self._down = weights_along(self._widths, self._lowers, row)

    @property
    def widths(self):
        """A new dict from the items to their widths."""
        return {item: self._widths[item] for item in self._widths}

    @property
    def members(self):
        """The ascending tuple of the items."""
        return tuple(self._widths)

    @property
    def pairs(self):
        """The ascending tuple of the pairs."""
        return tuple(self._pairs)

    @property
    def circle(self):
        """Any ring, or None."""
        return self._ring

    @property
    def weight(self):
        """The weight of the heaviest chain, 0 without items."""
        self._need_no_ring()
        return max(list(self._up.values()), default=0)

    @property
    def chain(self):
        """Any heaviest chain, () without items."""
        self._need_no_ring()
        return heaviest_along(self._uppers, self._up)

    def low(self, item):
        """The weight of the heaviest chain that ends directly below an item, or 0."""
        self._need_item(item)
        self._need_no_ring()
        return self._down[item] - self._widths[item]

    def high(self, item, band):
        """The band minus the weight of the heaviest chain that begins with an item."""
        self._need_item(item)
        self._need_no_ring()
        return band - self._up[item]

    @property
    def lowers(self):
        """A new dict from each item to the tuple of those that are a pair with it, lower ones."""
        return {item: tuple(self._lowers[item]) for item in self._lowers}

    @property
    def uppers(self):
        """A new dict from each item to the tuple of those that are a pair with it, upper ones."""
        return {item: tuple(self._uppers[item]) for item in self._uppers}

    def below(self, item):
        """The ascending tuple of the items below an item."""
        self._need_item(item)
        return reached(self._lowers, item)

    def above(self, item):
        """The ascending tuple of the items above an item."""
        self._need_item(item)
        return reached(self._uppers, item)

    def fits(self, band):
        """Whether there is no ring and no chain heavier than the band."""
        return self._ring is None and self.weight <= band

    def without(self, *items):
        """The order without these items and their pairs."""
        gone = entries_of(items)
        for item in gone:
            self._need_item(item)
        widths = {item: self._widths[item] for item in self._widths if item not in gone}
        pairs = [(lower, upper) for lower, upper in self._pairs if lower in widths and upper in widths]
        return Order(widths, pairs)

    def with_item(self, item, width, *, below=(), above=()):
        """The order with one item, above each of some items and below each of others."""
        if item in self._widths and not (is_integer(width) and width == self._widths[item]):
            raise Unlike(item)
        others = [other for other in self._widths if other != item]
        for other in (*below, *above):
            if other not in others:
                raise NoItem(other)
        pairs = [(other, item) for other in below] + [(item, other) for other in above]
        return Order({**self._widths, item: width}, list(self._pairs) + pairs)

    def is_part_of(self, other):
        """Whether each item, with its width, and each pair is in another order."""
        widths = other.widths
        if not all([item in widths and self._widths[item] == widths[item] for item in self._widths]):
            return False
        return all([pair in other for pair in self._pairs])

    def _need_item(self, value):
        """Raises NoItem if any value is no item."""
        if not is_among(value, self._widths):
            raise NoItem(value)

    def _need_no_ring(self):
        """Raises Circular if there is a ring."""
        if self._ring is not None:
            raise Circular(self._ring)

    def __or__(self, other):
        for item in self._widths:
            if item in other._widths and self._widths[item] != other._widths[item]:
                raise Unlike(item)
        return Order({**self._widths, **other._widths}, self.pairs + other.pairs)

    def __len__(self):
        return len(self._pairs)

    def __contains__(self, pair):
        if not isinstance(pair, tuple) or not all([isinstance(item, str) for item in pair]):
            return False
        return pair in self._pairs

    def __eq__(self, other):
        return isinstance(other, Order) and self._widths == other._widths and self._pairs == other._pairs

    def __repr__(self):
        return f"Order({len(self._widths)} items, {len(self._pairs)} pairs)"


def order_among(net, widths, spots):
    """The order of items with these widths and spots: of two that clash the one with the lesser place is lower."""
    pairs = []
    for one, other in pairs_clashing(net, {item: spots[item][0] for item in spots}):
        pairs.append((one, other) if spots[one][1] < spots[other][1] else (other, one))
    return Order(widths, pairs)


def order_of(layout):
    """The order of a layout."""
    return layout.order

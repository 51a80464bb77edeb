"""Ways to put an item into an order that has no ring, so that what results fits a band."""


def ways_in(order, band, width, rivals):
    """The list of the tuples of those rivals that a new item of this width can lie above.

    The new item is a pair with each rival, and below all others of them.
    """
    tops = {item: order.low(item) + order.widths[item] for item in rivals}
    roofs = {item: band - order.high(item, band) for item in rivals}
    found = []
    for below in lower_parts(order, rivals):
        depth = max([tops[item] for item in below], default=0)
        height = max([roofs[item] for item in rivals if item not in below], default=0)
        if depth + width + height <= band:
            found.append(below)
    return found


def lower_parts(order, items):
    """The list of the tuples of items that have with each item all the items that are below it."""
    found = [()]
    for _, item in sorted([(order.low(item), item) for item in items]):
        needed = [other for other in order.below(item) if other in items]
        grown = [(*part, item) for part in found if all([other in part for other in needed])]
        found = found + grown
    return found


def parts_of(items):
    """The list of the tuples of any of some items."""
    found = [()]
    for item in items:
        found = found + [(*part, item) for part in found]
    return found


def pairs_around(item, rivals, below):
    """The list of the pairs of an item above some of its rivals and below the others."""
    found = [(other, item) for other in rivals if other in below]
    return found + [(item, other) for other in rivals if other not in below]


def pairs_without(pairs, item):
    """The list of the pairs in which an item is not."""
    return [pair for pair in pairs if item not in pair]


def pairs_renamed(pairs, old, new):
    """The list of the pairs in which an item has another name."""
    names = {old: new}
    return [(names.get(lower, lower), names.get(upper, upper)) for lower, upper in pairs]

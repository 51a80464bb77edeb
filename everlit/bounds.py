"""Least places of items that avoid walls, with the steps that build them up.

A wall is a tuple (place, width, items): these items must not overlap these slots. A pile is the list of
the tuples (item, width, lowers) of all items, each behind the items directly below it, its lowers.
"""


def pile_of(layout):
    """The pile of the items of a layout."""
    lowers = layout.order.lowers
    # Items are above items with lesser places only.
    items = [item for _, item in sorted([(layout[item][1], item) for item in lowers])]
    return [(item, layout.width(item), lowers[item]) for item in items]


def bounds_over(pile, starts, walls):
    """The dict from each item to the pair of its least place and of the steps that show it.

    No item goes below its start. Items with lesser places in the layout come first.
    """
    widths = {item: width for item, width, _ in pile}
    found = {}
    for item, width, lowers in pile:
        bound = starts[item]
        steps = (("first", item),)
        for lower in lowers:
            pushed = found[lower][0] + widths[lower]
            if pushed > bound:
                bound = pushed
                steps = (*found[lower][1], ("pushed", item))
        found[item] = thrown_over(item, width, walls, (bound, steps))
    return found


def thrown_over(item, width, walls, reached):
    """The pair of a bound and its steps, reached for an item, after all throws by walls."""
    bound, steps = reached
    index = throwing(item, width, walls, bound)
    while index is not None:
        bound = walls[index][0] + walls[index][1]
        steps = (*steps, ("thrown", index))
        index = throwing(item, width, walls, bound)
    return (bound, steps)


def throwing(item, width, walls, bound):
    """The index of the first wall that an item with this bound overlaps, or None."""
    for index, (place, wide, items) in enumerate(walls):
        if item in items and place - width < bound < place + wide:
            return index
    return None


def least_over(pile, starts, walls):
    """The dict of the least places of the items that avoid walls, where there are some."""
    found = bounds_over(pile, starts, walls)
    return {item: found[item][0] for item in found}

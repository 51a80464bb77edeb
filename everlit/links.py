"""What items lead to by links: their ranks, a ring of them, and their heaviest chains.

Links are a dict from each item to the list of the items that it leads to directly.
"""


def links_of(items, pairs):
    """The links of items that lead from the first to the second one of each pair."""
    found = {}
    for item in items:
        found[item] = []
    for one, other in pairs:
        found[one].append(other)
    return found


def ranked(lowers, uppers):
    """The list of the items that are in no ring and above none, each behind all that are below it."""
    waiting = {item: len(lowers[item]) for item in lowers}
    found = [item for item in lowers if waiting[item] == 0]
    at = 0
    while at < len(found):
        item = found[at]
        for upper in uppers[item]:
            waiting[upper] = waiting[upper] - 1
            if waiting[upper] == 0:
                found.append(upper)
        at += 1
    return found


def ring_beside(lowers, ranks):
    """Any ring of the items, lower ones first, or None if all items have ranks."""
    known = {item: True for item in ranks}
    left = [item for item in lowers if item not in known]
    if not left:
        return None
    # An item without a rank has another such one directly below it, so the way down never ends.
    path = [left[0]]
    seen = {}
    while path[-1] not in seen:
        seen[path[-1]] = len(path) - 1
        path.append([item for item in lowers[path[-1]] if item not in known][0])
    return tuple(path[:seen[path[-1]]:-1])


def weights_along(widths, links, row):
    """The dict from the items of a row to the weight of the heaviest chain that leads on from each.

    In the row each item stands behind all that it leads to.
    """
    found = {}
    for item in row:
        found[item] = widths[item] + max([found[after] for after in links[item]], default=0)
    return found


def heaviest_along(links, weights):
    """Any heaviest chain along the links, by the weights of the heaviest ones from each item on."""
    found = []
    left = list(weights)
    while left:
        best = min([(-weights[item], item) for item in left])[1]
        found.append(best)
        left = links[best]
    return tuple(found)


def reached(links, start):
    """The ascending tuple of the items that a row of one or more links leads to from an item."""
    found = {}
    waiting = list(links[start])
    while waiting:
        item = waiting.pop()
        if item not in found:
            found[item] = True
            waiting.extend(links[item])
    return tuple(sorted(found))

"""The conditions of a layout, word by word from the document, for comparison with the program."""

from everlit.routes import ducts_of, ends_of, is_route, length_of


def factor(net, route):
    """The factor, or None if the route is too far."""
    if not net.reach:
        return 1
    fits = [row[1] for row in net.reach if row[0] >= length_of(net, route)]
    return fits[0] if fits else None


def name_of(item):
    return item.rstrip("+*")


def lit(item):
    return not item.endswith("*")


def calls(net, spots, name):
    """The ducts that each lit item of the signal meets."""
    met = [set(ducts_of(net, spots[item][0])) for item in (name, name + "+") if item in spots]
    return set.intersection(*met)


def held(net, rates, spots, item):
    """The pairs of a fibre and a slot that an item holds."""
    route, place = spots[item]
    width = rates[name_of(item)] * factor(net, route)
    return {(index, slot) for index in route for slot in range(place, place + width)}


def clash(net, spots, one, other):
    """Whether two items clash [6]."""
    if one == other or not set(spots[one][0]) & set(spots[other][0]):
        return False
    if lit(one) and lit(other):
        return True
    if lit(other):
        one, other = other, one
    needed = calls(net, spots, name_of(other))
    if lit(one):
        return bool(needed - set(ducts_of(net, spots[one][0])))
    return bool(needed & calls(net, spots, name_of(one)))


def clash_and_overlap(net, rates, spots, one, other):
    return clash(net, spots, one, other) and bool(
        held(net, rates, spots, one) & held(net, rates, spots, other))


def out_of_band(net, band, rates, spots, item):
    """Whether an item holds slots outside of the band."""
    return any(not 0 <= slot < band for _, slot in held(net, rates, spots, item))


def fault(net, band, rates, spots):
    """The first fault of values whose rates and names of items are right, or None."""
    lights = [name for name in rates if name not in spots]
    strange = [item for item in spots if name_of(item) not in rates]
    if lights or strange:
        return ("signal", min(lights + strange))
    twins = sorted(item for item in spots if item.endswith("+"))
    if twins[1:]:
        return ("twin", twins[1])
    words = {
        "route": lambda item: not right_spot(net, spots[item]),
        "far": lambda item: factor(net, spots[item][0]) is None,
        "ends": lambda item: ends_of(net, spots[item][0]) != ends_of(net, spots[name_of(item)][0]),
        "place": lambda item: out_of_band(net, band, rates, spots, item),
        "calls": lambda item: not lit(item) and bool(
            set(ducts_of(net, spots[item][0])) & calls(net, spots, name_of(item))),
        "overlap": lambda item: any(clash_and_overlap(net, rates, spots, item, other) for other in spots),
    }
    for word, holds in words.items():
        found = [item for item in spots if holds(item)]
        if found:
            return (word, min(found))
    return None


def right_spot(net, spot):
    return type(spot) is tuple and len(spot) == 2 and is_route(net, spot[0]) and type(spot[1]) is int


def survives(net, rates, spots):
    """The condition of [8]: with no cut and with the cut of each single duct nothing is disturbed."""
    return all(survives_cut(net, rates, spots, duct) for duct in (None, *net.ducts))


def survives_cut(net, rates, spots, duct):
    struck = [name for name in rates if duct in calls(net, spots, name)]
    reserves = [name + "*" for name in struck if name + "*" in spots]
    if any(duct in ducts_of(net, spots[item][0]) for item in reserves):
        return False
    stay = [item for item in spots if lit(item) and duct not in ducts_of(net, spots[item][0])]
    told = [slot for item in stay + reserves for slot in held(net, rates, spots, item)]
    return len(told) == len(set(told))


def closure(pairs):
    """All pairs of items of which one is below the other one."""
    found = set(pairs)
    while True:
        more = {(a, d) for a, b in found for c, d in found if b == c} - found
        if not more:
            return found
        found |= more


def chains(members, pairs):
    """All chains of an order without a ring, as tuples of items."""
    found = [(item,) for item in members]
    for chain in found:
        found += [chain + (upper,) for lower, upper in sorted(set(pairs)) if lower == chain[-1]]
    return found


def weight(widths, chain):
    return sum(widths[item] for item in chain)


def is_ring(pairs, items):
    """Whether a tuple of items is a ring."""
    if len(items) < 2 or len(set(items)) < len(items):
        return False
    return all((items[at - 1], items[at]) in pairs for at in range(len(items)))


def order_pairs(net, spots):
    """The pairs of the order of a layout [10], ascending."""
    found = [(one, other) for one in spots for other in spots if clash(net, spots, one, other)]
    return sorted((one, other) for one, other in found if spots[one][1] < spots[other][1])


def wish_word(net, rates, spots, wish):
    """The first word that is wrong about a tuple of an item, a route and a rate as a wish, or None."""
    item, route, rate = wish
    name, light = name_of(item), lit(item) and not item.endswith("+")
    if (name in rates) == light or (item.endswith("+") and any(other.endswith("+") for other in spots)):
        return "wish"
    if light and len(rates) == 12:
        return "many"
    if light and (type(rate) is not int or not 1 <= rate <= 16) or not light and rate is not None:
        return "rate"
    if not is_route(net, route) or not light and ends_of(net, route) != ends_of(net, spots[name][0]):
        return "route"
    if factor(net, route) is None:
        return "far"
    if not lit(item) and set(ducts_of(net, route)) & set(calls(net, spots, name)):
        return "calls"
    return None

"""Ticks: what one does, and the fewest that lead from a layout to one that is alike."""

from everlit.clashes import clash
from everlit.errors import NotAllowed
from everlit.falls import falls_down, falls_up, from_top, places_from_top
from everlit.kinds import is_item
from everlit.limits import entries_of, is_integer
from everlit.turned import need_unturned


def after_tick(layout, *steps):
    """The layout after one tick of these steps, any values."""
    came = {}
    places = {}
    for index, step in enumerate(entries_of(steps)):
        word = step_word(layout, came, step)
        if word is not None:
            raise NotAllowed(index, word)
        item, way = step
        came[item] = slot_ahead(layout, item, way)
        places[item] = layout[item][1] + way
    return layout.placed(places) if places else layout


def step_word(layout, came, step):
    """The word that bars any value as a step behind others, or None.

    Came is a dict from the items of the steps ahead to the slots that they come to.
    """
    if not is_step(step):
        return "step"
    item, way = step
    if item not in layout or item in came:
        return "item"
    slot = slot_ahead(layout, item, way)
    if not 0 <= slot < layout.band:
        return "band"
    for other in layout.spots:
        if (holds(layout, other, slot) or came.get(other) == slot) and clash(layout, item, other):
            return "taken"
    return None


def is_step(value):
    """Whether any value is a pair of an item and 1 or -1."""
    if not isinstance(value, tuple) or len(value) != 2:
        return False
    return is_item(value[0]) and is_integer(value[1]) and value[1] in (1, -1)


def slot_ahead(layout, item, way):
    """The slot that an item comes to."""
    place = layout[item][1]
    return place + layout.width(item) if way == 1 else place - 1


def holds(layout, item, slot):
    """Whether an item holds a slot."""
    place = layout[item][1]
    return place <= slot < place + layout.width(item)


def envelope(layout, ticks):
    """The dicts of the lowest and of the highest places after so many ticks."""
    top = falls_up(layout).after(ticks)
    return (falls_down(layout).after(ticks), {item: from_top(layout, item, top[item]) for item in top})


def fewest_ticks(first, goal):
    """The least number of ticks that lead from one layout to the other one."""
    _, _, many = ways_between(first, goal)
    return many


def ways_between(first, goal):
    """The falls of a layout both ways, and the least number of ticks that lead to the other one."""
    need_unturned(first, goal)
    down = falls_down(first)
    up = falls_up(first)
    return down, up, max(down.ticks_to(places_in(goal)), up.ticks_to(places_from_top(goal)))


def places_in(layout):
    """The dict from the items of a layout to their places."""
    spots = layout.spots
    return {item: spots[item][1] for item in spots}


def schedule(first, goal):
    """The list of the fewest ticks, in which each item goes as soon as it can."""
    down, up, many = ways_between(first, goal)
    falls = steps_along(down, places_in(goal), many, -1)
    rises = steps_along(up, places_from_top(goal), many, 1)
    return [tuple(sorted(one + other)) for one, other in zip(falls, rises)]


def steps_along(falls, aims, many, step):
    """The list of the lists of the steps of those items that fall to their aims, for so many ticks."""
    found = []
    before = falls.after(0)
    for ticks in range(1, many + 1):
        after = falls.after(ticks)
        found.append([(item, step) for item in aims if before[item] > aims[item] and after[item] < before[item]])
        before = after
    return found


def wait_chain(first, goal):
    """A certificate for the fewest ticks, or None if no tick is needed."""
    down, up, many = ways_between(first, goal)
    if many == 0:
        return None
    chain = late_chain(down, places_in(goal), many - 1)
    if chain is not None:
        return ("down", chain)
    return ("up", late_chain(up, places_from_top(goal), many - 1))


def late_chain(falls, aims, ticks):
    """A width chain that bars the aim of its first item, or None."""
    low = falls.after(ticks)
    late = [item for item in low if low[item] > aims[item]]
    return falls.width_chain(late[0], ticks) if late else None

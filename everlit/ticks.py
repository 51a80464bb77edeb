"""Ticks: what one does, and the fewest that lead from a layout to one that is alike."""

from everlit.clashes import clash
from everlit.errors import NotAllowed
from everlit.falls import falling, rising, row_after, width_chain
from everlit.kinds import is_item
from everlit.limits import entries_of, is_integer
from everlit.turned import need_unturned


def after_tick(layout, *steps):
    """The layout after one tick of these steps, any values."""
    came = {}
    places = {}
    for index, step in enumerate(entries_of(steps)):
        word = step_word(layout, came, step)
        if word is not None:
            raise NotAllowed(index, word)
        item, way = step
        came[item] = slot_ahead(layout, item, way)
        places[item] = layout[item][1] + way
    return layout.placed(places) if places else layout


def step_word(layout, came, step):
    """The word that bars any value as a step behind others, or None.

    Came is a dict from the items of the steps ahead to the slots that they come to.
    """
    if not is_step(step):
        return "step"
    item, way = step
    if item not in layout or item in came:
        return "item"
    slot = slot_ahead(layout, item, way)
    if not 0 <= slot < layout.band:
        return "band"
    for other in layout.spots:
        if (holds(layout, other, slot) or came.get(other) == slot) and clash(layout, item, other):
            return "taken"
    return None


def is_step(value):
    """Whether any value is a pair of an item and 1 or -1."""
    if not isinstance(value, tuple) or len(value) != 2:
        return False
    return is_item(value[0]) and is_integer(value[1]) and value[1] in (1, -1)


def slot_ahead(layout, item, way):
    """The slot that an item comes to."""
    place = layout[item][1]
    return place + layout.width(item) if way == 1 else place - 1


def holds(layout, item, slot):
    """Whether an item holds a slot."""
    place = layout[item][1]
    return place <= slot < place + layout.width(item)


def envelope(layout, ticks):
    """The dicts of the lowest and of the highest places after so many ticks."""
    return (row_after(falling(layout), ticks), row_after(rising(layout), ticks))


def fewest_ticks(first, goal):
    """The least number of ticks that lead from one layout to the other one."""
    need_unturned(first, goal)
    return fewest_within(goal, falling(first), rising(first))


def fewest_within(goal, lowest, highest):
    """The least number of ticks after which the goal lies between the lowest and highest places."""
    ticks = 0
    while not lies_within(goal, row_after(lowest, ticks), row_after(highest, ticks)):
        ticks += 1
    return ticks


def lies_within(goal, low, high):
    """Whether the place of each item lies between two dicts of places."""
    return all([low[item] <= goal[item][1] <= high[item] for item in low])


def schedule(first, goal):
    """The list of the fewest ticks, in which each item goes as soon as it can."""
    need_unturned(first, goal)
    lowest = falling(first)
    highest = rising(first)
    many = fewest_within(goal, lowest, highest)
    rows = []
    for ticks in range(many + 1):
        rows.append(places_on_way(first, goal, row_after(lowest, ticks), row_after(highest, ticks)))
    return [tick_between(rows[at], rows[at + 1]) for at in range(many)]


def places_on_way(first, goal, low, high):
    """The dict of the places nearest to the goal that lie between the lowest and highest ones."""
    found = {}
    for item in low:
        aim = goal[item][1]
        found[item] = max(aim, low[item]) if aim <= first[item][1] else min(aim, high[item])
    return found


def tick_between(before, after):
    """The tick that leads from some places to those one tick later."""
    return tuple([(item, after[item] - before[item]) for item in sorted(before) if after[item] != before[item]])


def wait_chain(first, goal):
    """A certificate for the fewest ticks, or None if no tick is needed."""
    many = fewest_ticks(first, goal)
    if many == 0:
        return None
    down = late_chain(first, goal, many - 1)
    if down is not None:
        return ("down", down)
    return ("up", late_chain(first.mirrored(), goal.mirrored(), many - 1))


def late_chain(first, goal, ticks):
    """A width chain downwards that bars the place of its first item in goal, or None."""
    rows = falling(first)
    low = row_after(rows, ticks)
    late = [item for item in low if low[item] > goal[item][1]]
    return width_chain(first, rows, late[0], ticks) if late else None

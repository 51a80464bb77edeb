"""The check of the certificates for the fewest ticks."""

from everlit.falls import from_top, leads_down, leads_up, weight_behind
from everlit.turned import need_alike


def least_ticks(first, goal, value):
    """The least number of ticks that any value shows to be needed; None if it shows none."""
    need_alike(first, goal)
    if not isinstance(value, tuple) or len(value) != 2:
        return None
    word, items = value
    if word == "down" and leads_down(first.order, items):
        return ticks_shown(first, items, goal[items[0]][1], first[items[-1]][1])
    if word == "up" and leads_up(first.order, items):
        aim = from_top(goal, items[0], goal[items[0]][1])
        return ticks_shown(first, items, aim, from_top(first, items[-1], first[items[-1]][1]))
    return None


def ticks_shown(layout, items, aim, place):
    """The least number of ticks that a width chain shows to be needed, by the aim of its first item.

    The place is that of its last item; both are counted from the end of the band to which it leads.
    """
    weight = weight_behind(layout, items)
    if weight > aim:
        return None
    # It bars as long as the last item has not fallen far enough, from its own length on.
    late = weight + place - aim
    return late + len(items) - 1 if late > 0 else 0

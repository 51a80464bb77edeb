"""The check of the certificates for the fewest ticks."""

from everlit.falls import leads_down, weight_behind
from everlit.orders import order_of
from everlit.turned import need_alike


def least_ticks(first, goal, value):
    """The least number of ticks that any value shows to be needed; None if it shows none."""
    need_alike(first, goal)
    if not isinstance(value, tuple) or len(value) != 2:
        return None
    word, items = value
    if word == "down":
        return ticks_down(first, goal, items)
    if word == "up":
        return ticks_down(first.mirrored(), goal.mirrored(), items)
    return None


def ticks_down(first, goal, items):
    """The least number of ticks that any value shows to be needed as a width chain downwards."""
    if not leads_down(order_of(first), items):
        return None
    aim = goal[items[0]][1]
    weight = weight_behind(first, items)
    if weight > aim:
        return None
    # It bars as long as the last item has not fallen far enough, from its own length on.
    late = weight + first[items[-1]][1] - aim
    return late + len(items) - 1 if late > 0 else 0

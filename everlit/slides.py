"""Slides from a layout to one that is alike."""

from everlit.turned import need_unturned


def distance(first, goal):
    """The sum of the differences of the places of two layouts."""
    need_unturned(first, goal)
    return sum([abs(goal[item][1] - first[item][1]) for item in first.spots])


def slides(first, goal):
    """Yields slide moves from one layout to the other one, as few as possible."""
    need_unturned(first, goal)
    ways = {item: goal[item][1] - first[item][1] for item in first.spots}
    falls = sorted([(first[item][1], item) for item in ways if ways[item] < 0])
    rises = sorted([(-first[item][1], item) for item in ways if ways[item] > 0])
    for _, item in falls:
        for _ in range(-ways[item]):
            yield ("slide", item, -1)
    for _, item in rises:
        for _ in range(ways[item]):
            yield ("slide", item, 1)

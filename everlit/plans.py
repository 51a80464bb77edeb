"""Plans: what rows of moves lead to."""

from everlit.courses import Course
from everlit.errors import NotAllowed
from everlit.limits import entries_of
from everlit.moves import done, move_back


def play(layout, *moves):
    """The layout that moves, any values, lead to."""
    return after_moves(layout, entries_of(moves))


def after_moves(layout, moves):
    """The layout that the moves of a list lead to; raises NotAllowed."""
    course = Course(layout)
    for index, move in enumerate(moves):
        word = course.go(move)
        if word is not None:
            raise NotAllowed(index, word)
    return course.reached()


def layouts_along(layout, moves):
    """The list of a layout and the layout behind each move of a list; raises NotAllowed."""
    found = [layout]
    for index, move in enumerate(moves):
        try:
            found.append(done(found[-1], move))
        except NotAllowed as e:
            raise NotAllowed(index, e.word) from None
    return found


def stages(layout, *moves):
    """Yields the layout and the layout behind each move."""
    found = layouts_along(layout, entries_of(moves))
    for stage in found:
        yield stage


def plan_fault(first, goal, value):
    """None if any value is a plan that leads from first to goal, otherwise what is wrong."""
    if not isinstance(value, (list, tuple)):
        return ("form", None)
    try:
        last = after_moves(first, value)
    except NotAllowed as e:
        return (e.word, e.index)
    return None if last == goal else ("goal", len(value))


def back(layout, *moves):
    """The tuple of the moves that lead back, the last first; None if one cannot be led back."""
    told = entries_of(moves)
    found = layouts_along(layout, told)
    ways = [move_back(found[at], move) for at, move in enumerate(told)]
    return None if None in ways else tuple(ways[::-1])


def tally(moves):
    """The dict from the first words of moves to their numbers."""
    words = [move[0] for move in moves]
    return {word: words.count(word) for word in sorted(set(words))}


def hops_in(moves):
    """The number of light moves."""
    return len([move for move in moves if move[0] == "light"])


def hop(layout, name, route, place):
    """The layout behind a light move and the out move."""
    return after_moves(layout, [("light", name, route, place), ("out", name)])


def always_lit(layout, *moves):
    """The ascending tuple of the signals of the layout that no end move takes away."""
    told = entries_of(moves)
    after_moves(layout, told)
    ended = [move[1] for move in told if move[0] == "end"]
    return tuple([name for name in layout.signals if name not in ended])

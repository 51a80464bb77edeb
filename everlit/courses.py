"""Moves that are done one after another on a layout."""

from everlit.clashes import rivals_among, routes_in
from everlit.errors import NotAllowed
from everlit.layouts import share_slot
from everlit.moves import done, is_move


class Course:
    """What moves have led to so far.

    Long plans consist of slides mostly, and behind a slide only the item that slid is looked at.
    """

    def __init__(self, layout):
        self._settle(layout)

    def _settle(self, layout):
        """Begins to count slides from a layout."""
        self._base = layout
        self._places = {item: layout[item][1] for item in layout.spots}
        self._rivals = {}

    def reached(self):
        """The layout that the moves have led to."""
        return self._base.placed(self._places)

    def go(self, move):
        """Does any value as a move; returns None, or the word that bars it."""
        if is_move(move) and move[0] == "slide":
            return self._slide(move[1], move[2])
        try:
            self._settle(done(self.reached(), move))
        except NotAllowed as e:
            return e.word
        return None

    def _slide(self, item, step):
        """Does a slide; returns None, or the word that bars it."""
        if item not in self._places:
            return "item"
        place = self._places[item] + step
        span = (place, place + self._base.width(item))
        if span[0] < 0 or span[1] > self._base.band:
            return "place"
        for other, width in self._rivals_of(item):
            start = self._places[other]
            if share_slot(span, (start, start + width)):
                return "overlap"
        self._places[item] = place
        return None

    def _rivals_of(self, item):
        """The list of the items that clash with an item, each with its width."""
        if item not in self._rivals:
            base = self._base
            found = rivals_among(base.net, routes_in(base), item)
            self._rivals[item] = [(other, base.width(other)) for other in found]
        return self._rivals[item]

"""Plants: layouts in use, whose calls can be taken back."""

from everlit.cuts import after_cut
from everlit.errors import Barred, InvalidBand, InvalidLayout, InvalidWish, NoName, NotAllowed, NothingToUndo
from everlit.kinds import is_name, reserve_of
from everlit.limits import entries_of, is_integer
from everlit.moves import is_move
from everlit.plans import after_moves, hops_in
from everlit.reserves import guard
from everlit.rooms import room_aside
from everlit.roomticks import narrowed
from everlit.slides import slides


class Plant:
    """A layout in use, with the log of what was done to it."""

    KIND = "Plant"

    def __init__(self, layout):
        self._layout = layout
        self._log = ()
        # The pairs of a layout and a log ahead of each call that can be taken back.
        self._past = ()

    @property
    def layout(self):
        """The layout as it is now."""
        return self._layout

    @property
    def log(self):
        """The tuple of the entries of all that was done and not taken back."""
        return self._log

    @property
    def hops(self):
        """The number of light moves in the log."""
        return hops_in(self._log)

    @property
    def slots(self):
        """The band."""
        return self._layout.band

    @slots.setter
    def slots(self, value):
        try:
            after = self._layout.in_band(value)
        except InvalidLayout:
            raise InvalidBand(value) from None
        self._go_on(after, [("band", value)])

    def _go_on(self, layout, entries):
        """Ends a call that leads to a layout and whose entries go into the log."""
        self._past = (*self._past, (self._layout, self._log))
        self._layout = layout
        self._log = (*self._log, *entries)

    def do(self, *moves):
        """Does moves, any values; returns how many entries the log has."""
        told = entries_of(moves)
        self._go_on(after_moves(self._layout, told), told)
        return len(self._log)

    def slide_to(self, goal):
        """Does the slides to a layout that is alike; returns their number."""
        moves = list(slides(self._layout, goal))
        self._go_on(goal, moves)
        return len(moves)

    def admit(self, name, rate, route):
        """Begins a signal where there is room, the others sliding aside; returns its place."""
        if not is_name(name):
            raise InvalidWish("wish")
        word, found, aside = room_aside(self._layout, (name, route, rate))
        if word == "barred":
            raise Barred(found)
        self._set_beside(aside, ("begin", name, rate, route, found))
        return found

    def protect(self, name):
        """Sets the reserve of a signal where there is room, the others sliding aside; returns its route."""
        answer = guard(self._layout, name)
        if answer[0] == "barred":
            raise Barred(answer[1])
        route = answer[1]
        _, place, aside = room_aside(self._layout, (reserve_of(name), route, None))
        word = "move" if reserve_of(name) in self._layout else "guard"
        self._set_beside(aside, (word, name, route, place))
        return route

    def _set_beside(self, aside, move):
        """Slides all items to their places in a layout, and does a move there."""
        moves = list(slides(self._layout, aside)) + [move]
        self._go_on(after_moves(aside, [move]), moves)

    def narrow(self, band):
        """Slides all items below a lesser band, which becomes the band; returns the fewest ticks."""
        answer = narrowed(self._layout, band)
        if answer[0] == "chain":
            raise Barred(answer[1])
        _, ticks, after = answer
        moves = list(slides(self._layout, after.in_band(self._layout.band)))
        self._go_on(after, moves + [("band", band)])
        return ticks

    def cut(self, duct):
        """Goes on behind the cut of a duct; returns the tuple of the signals that are dark."""
        after, _ = after_cut(self._layout, duct)
        dark = tuple([name for name in self._layout.signals if name not in after])
        self._go_on(after, [("cut", duct)])
        return dark

    def change(self, **settings):
        """Assigns the slots, if they are told, as one call."""
        strange = sorted([word for word in settings if word != "slots"])
        if strange:
            raise NoName(strange[0])
        if "slots" in settings:
            self.slots = settings["slots"]
        else:
            self._go_on(self._layout, [])

    def undo(self, count=1):
        """Takes back the last calls; returns how many entries the log has."""
        if not is_integer(count) or not 1 <= count <= len(self._past):
            raise NothingToUndo(count)
        self._layout, self._log = self._past[-count]
        self._past = self._past[:-count]
        return len(self._log)

    def trial(self, deed):
        """Returns what a function returns for the plant, which is as before afterwards."""
        layout = self._layout
        log = self._log
        past = self._past
        try:
            return deed(self)
        finally:
            self._layout = layout
            self._log = log
            self._past = past

    def twin(self):
        """A plant with the same layout, log and calls that can be taken back."""
        return self._told_to(Plant(self._layout))

    def _told_to(self, other):
        """Another plant with the same layout, once it has the log and the calls of this one."""
        other._log = self._log
        other._past = self._past
        return other

    def __eq__(self, other):
        if not isinstance(other, Plant):
            return False
        return self.KIND == other.KIND and self._layout == other._layout and self._log == other._log

    def __len__(self):
        return len(self._log)

    def __bool__(self):
        return True

    def __repr__(self):
        return f"Plant({len(self._layout)} items, {len(self._log)} entries)"


class GuardedPlant(Plant):
    """A plant in which each signal that was guarded stays guarded."""

    KIND = "GuardedPlant"

    def do(self, *moves):
        """Does moves, any values, of which none takes a reserve away; returns how many entries the log has."""
        told = entries_of(moves)
        for index, move in enumerate(told):
            # No other move leaves a signal without its reserve, except the end of the signal itself.
            if is_move(move) and move[0] == "drop":
                after_moves(self._layout, told[:index + 1])
                raise NotAllowed(index, "guard")
        return super().do(told)

    def twin(self):
        """A guarded plant with the same layout, log and calls that can be taken back."""
        return self._told_to(GuardedPlant(self._layout))

    def __repr__(self):
        return f"GuardedPlant({len(self._layout)} items, {len(self._log)} entries)"

"""Nets: fibres that join stations and lie in ducts, and the reach."""

from everlit.errors import InvalidNet, NoDuct, NoFibre
from everlit.formatting import net_text
from everlit.kinds import is_name
from everlit.limits import MOST_FIBRES, MOST_ROWS, entries_of, is_integer, is_within
from everlit.textrows import NET_HEADS, text_rows


def is_fibre(value):
    """Whether any value is a fibre: two different stations, a length and a duct."""
    if not isinstance(value, tuple) or len(value) != 4:
        return False
    one, other, length, duct = value
    if not is_name(one) or not is_name(other) or one == other:
        return False
    return is_within("length", length) and is_name(duct)


def is_row(value):
    """Whether any value has the form of a row of a reach."""
    if not isinstance(value, tuple) or len(value) != 2:
        return False
    length, factor = value
    return is_within("span", length) and is_within("factor", factor)


def fibre_fault(values):
    """The index of the first value that cannot be a fibre of a net, or None."""
    for index, value in enumerate(values):
        if index == MOST_FIBRES or not is_fibre(value):
            return index
    return None if values else 0


def reach_fault(reach):
    """The index of the first row of any value that cannot stand in a reach, or None."""
    if not isinstance(reach, (list, tuple)):
        return 0
    before = (0, 0)
    for index, row in enumerate(reach):
        if index == MOST_ROWS or not is_row(row):
            return index
        if row[0] <= before[0] or row[1] <= before[1]:
            return index
        before = row
    return None


def lesser_first(fibre):
    """The fibre with the lesser station first."""
    one, other, length, duct = fibre
    return (min(one, other), max(one, other), length, duct)


def net_parts(rows):
    """The fibres and the reach that rows of a text tell."""
    fibres = [row[1:] for row in rows if row[0] == "fibre"]
    reach = [row[1:] for row in rows if row[0] == "reach"]
    return fibres, reach


class Net:
    """A net, which never changes."""

    MOST = 16

    def __init__(self, *fibres, reach=()):
        values = entries_of(fibres)
        wrong = fibre_fault(values)
        if wrong is not None:
            raise InvalidNet("fibre", wrong)
        wrong = reach_fault(reach)
        if wrong is not None:
            raise InvalidNet("reach", wrong)
        self._fibres = tuple([lesser_first(fibre) for fibre in values])
        self._reach = tuple(reach)
        ends = [fibre[0] for fibre in values] + [fibre[1] for fibre in values]
        self._stations = tuple(sorted(set(ends)))
        self._ducts = tuple(sorted({fibre[3] for fibre in values}))
        self._bits = tuple([1 << self._ducts.index(fibre[3]) for fibre in values])

    @classmethod
    def read(cls, text):
        """The net that a text writes."""
        fibres, reach = net_parts(text_rows(text, NET_HEADS))
        return cls(fibres, reach=reach)

    @property
    def fibres(self):
        """The tuple of the fibres, each with the lesser station first."""
        return self._fibres

    @property
    def stations(self):
        """The ascending tuple of the stations."""
        return self._stations

    @property
    def ducts(self):
        """The ascending tuple of the ducts."""
        return self._ducts

    @property
    def reach(self):
        """The tuple of the rows of the reach."""
        return self._reach

    def duct_of(self, index):
        """The duct of a fibre."""
        return self[index][3]

    def fibres_in(self, duct):
        """The ascending tuple of the numbers of the fibres in a duct."""
        if duct not in self._ducts:
            raise NoDuct(duct)
        return tuple([index for index, fibre in enumerate(self._fibres) if fibre[3] == duct])

    def marks(self, route):
        """The fibres of a route and the ducts that it meets, each as an integer with a bit for each of them."""
        fibres = 0
        ducts = 0
        for index in route:
            fibres = fibres | 1 << index
            ducts = ducts | self._bits[index]
        return (fibres, ducts)

    def __len__(self):
        return len(self._fibres)

    def __getitem__(self, index):
        if index not in self:
            raise NoFibre(index)
        return self._fibres[index]

    def __iter__(self):
        raise TypeError("a net is not iterated over")

    def __contains__(self, index):
        return is_integer(index) and 0 <= index < len(self._fibres)

    def __eq__(self, other):
        return isinstance(other, Net) and self._fibres == other._fibres and self._reach == other._reach

    def __str__(self):
        return str(net_text(self))

    def __repr__(self):
        return f"Net({len(self._fibres)} fibres, {len(self._reach)} rows)"

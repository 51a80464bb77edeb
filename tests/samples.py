"""Nets, layouts and values that several tests use."""

import random

from everlit.layouts import Layout
from everlit.nets import Net

# Values of every kind that "any value" allows and that are nearly never right.
STRANGE = [
    None, True, False, 0, 1, -1, 10 ** 59, -(10 ** 59), "", " ", "a", "A", "a b", "?", "a" * 6000,
    (), (1,), ("a",), ("a", 1), (None,), ((),), (True, False), [], [1], ["a"], [[]], {}, {"a": 1},
    {1: "a"}, {(1, 2): [3]}, ([1],), [(1, 2)], {"a": {"b": []}},
]


def nested(depth):
    """A list within a list, so many deep."""
    value = []
    for _ in range(depth - 1):
        value = [value]
    return value


STRANGE.append(nested(20))
STRANGE.append(tuple(range(5000)))


def ladder():
    """A net with parallel fibres, shared ducts and a reach.

    a-b twice (0 and 1), b-c (2), a-c (3), c-d (4), b-d (5); fibres 0 and 3 share a duct.
    """
    return Net(
        ("a", "b", 100, "x"), ("b", "a", 200, "y"), ("b", "c", 100, "z"),
        ("a", "c", 250, "x"), ("c", "d", 50, "w"), ("b", "d", 300, "v"),
        reach=[(200, 1), (450, 2)],
    )


def line(*reach):
    """Three fibres from a to b, in three ducts, of length 100."""
    return Net(("a", "b", 100, "p"), ("a", "b", 100, "q"), ("a", "b", 100, "r"), reach=reach)


def crowd():
    """A layout with a doubled signal, reserves and a signal on two fibres."""
    return Layout(
        ladder(), 10,
        {"one": 2, "two": 1, "wide": 3},
        {
            "one": ((0,), 0), "one+": ((1,), 1), "one*": ((3, 2), 4),
            "two": ((0, 2), 2), "wide": ((4,), 7), "wide*": ((2, 5), 4),
        },
    )


def random_net(rng, fibres, stations, ducts, rows=None):
    """A net of so many fibres between a few stations, in a few ducts."""
    told = []
    for _ in range(fibres):
        one, other = rng.sample("abcdefgh"[:stations], 2)
        told.append((one, other, rng.randint(1, 5), rng.choice("pqrstuvw"[:ducts])))
    if rows is None:
        rows = rng.choice([(), ((4, 1), (9, 2)), ((6, 2),), ((3, 1), (6, 3), (12, 4))])
    return Net(*told, reach=rows)


def generator(seed):
    """A source of numbers that is the same in each run."""
    return random.Random(seed)

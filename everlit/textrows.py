"""The lines of texts, read into rows: tuples of the first word and the values behind it."""

from everlit.errors import ParseError
from everlit.kinds import is_item, is_name
from everlit.limits import MOST_FIBRES, is_within

NET_HEADS = ("fibre", "reach")
LAYOUT_HEADS = ("fibre", "reach", "band", "signal", "twin", "reserve")

# What the words behind the first word of a line are, in their order.
FORMS = {
    "fibre": ("name", "name", "length", "name"),
    "reach": ("span", "factor"),
    "band": ("band",),
    "signal": ("name", "rate", "route", "place"),
    "twin": ("name", "route", "place"),
    "reserve": ("name", "route", "place"),
}

# The first words of the lines that may stand directly ahead; an empty one is the beginning.
AHEAD = {
    "fibre": ("", "fibre"),
    "reach": ("fibre", "reach"),
    "band": ("fibre", "reach"),
    "signal": ("band", "signal", "twin", "reserve"),
    "twin": ("signal", "reserve"),
    "reserve": ("signal", "twin"),
}

MOST_LINES = {"fibre": 16, "reach": 6, "band": 1, "signal": 12}
EXTRAS = ("twin", "reserve")
STEPS = {"up": 1, "down": -1}

# No number that a text may hold is longer, and int() refuses numbers that are much longer.
MOST_DIGITS = 6
DIGITS = "0123456789"


def text_rows(text, heads):
    """The rows of the lines of any value, all beginning with one of the heads; raises ParseError."""
    if not isinstance(text, str):
        raise ParseError(0, 0)
    rows = []
    for line, told in enumerate(text.split("\n")):
        words = told.split(" ")
        wrong = wrong_word(rows, words, heads)
        if wrong is not None:
            raise ParseError(line, wrong)
        rows.append(row_of(words))
    return rows


def wrong_word(rows, words, heads):
    """The index of the first wrong or missing word of the line behind the rows, or None."""
    head = words[0]
    if head not in heads or not may_stand(rows, head):
        return 0
    if len(words) > 1 and not name_fits(rows, head, words[1]):
        return 1
    return wrong_behind(FORMS[head], words)


def wrong_behind(forms, words):
    """The index of the first word behind the first one that is wrong, missing or too many, or None."""
    for at, form in enumerate(forms, start=1):
        if at == len(words) or worth_of(form, words[at]) is None:
            return at
    if len(words) > len(forms) + 1:
        return len(forms) + 1
    return None


def may_stand(rows, head):
    """Whether a line that begins with this word can stand behind the rows."""
    told = [row[0] for row in rows]
    ahead = told[-1] if told else ""
    if ahead not in AHEAD[head]:
        return False
    if head in EXTRAS:
        return ahead == "signal" or told[-2] == "signal"
    return told.count(head) < MOST_LINES[head]


def name_fits(rows, head, name):
    """Whether the name of a signal is new, or that of the signal line it belongs to."""
    if head == "signal":
        return name not in [row[1] for row in rows if row[0] == "signal"]
    if head in EXTRAS:
        return name == rows[-1][1]
    return True


def row_of(words):
    """The row of a line that is right."""
    return row_by(FORMS[words[0]], words)


def row_by(forms, words):
    """The tuple of the first word and of the values that the others, which are right, write."""
    worths = [worth_of(form, word) for form, word in zip(forms, words[1:])]
    return tuple([words[0]] + worths)


def worth_of(form, word):
    """The value that a word writes, or None if it cannot stand for this form."""
    if form == "name":
        return word if is_name(word) else None
    if form == "item":
        return word if is_item(word) else None
    if form == "step":
        return STEPS.get(word)
    if form == "route":
        return route_in(word)
    number = number_in(word)
    return number if is_within(form, number) else None


def number_in(word):
    """The integer that a word writes, or None if it writes none that a text may hold."""
    if not 1 <= len(word) <= MOST_DIGITS:
        return None
    if not all([digit in DIGITS for digit in word]):
        return None
    if word[0] == "0" and word != "0":
        return None
    return int(word)


def route_in(word):
    """The route that a word writes, or None if it writes none."""
    numbers = [number_in(part) for part in word.split(",")]
    if len(numbers) > MOST_FIBRES or not all([is_within("fibre", number) for number in numbers]):
        return None
    return tuple(numbers)

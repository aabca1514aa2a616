"""Money in pounds, shillings and pence."""

from yarnback.errors import Unread
from yarnback.figures import are_figures, parts_in

PENCE_IN = {"l": 240, "s": 12, "d": 1}
MOST_FIGURES = 12


class Money:
    """Whole pence, perhaps below 0: twelve pence a shilling, twenty shillings a pound."""

    def __init__(self, pence=0, shillings=0, pounds=0):
        self.pence = pounds * PENCE_IN["l"] + shillings * PENCE_IN["s"] + pence

    def __eq__(self, other):
        return isinstance(other, Money) and self.pence == other.pence

    def __str__(self):
        return " ".join(written_parts(self.pence))

    def __repr__(self):
        return f"Money(pence={self.pence})"

    def plus(self, other):
        """Both together."""
        return Money(self.pence + other.pence)

    def less(self, other):
        """Without the other one, perhaps below 0."""
        return Money(self.pence - other.pence)

    def times(self, many=2):
        """So many of it, perhaps below 0."""
        return Money(self.pence * many)


def written_parts(pence):
    """The parts that are not 0, each with its unit, below 0 with a `-` ahead; of nothing `0d`."""
    parts = [f"{many}{unit}" for many, unit in parts_in(abs(pence), dict(PENCE_IN))] or ["0d"]
    if pence < 0:
        parts[0] = f"-{parts[0]}"
    return parts


def read_money(text):
    """The money that the text writes, just as money is written."""
    pence = pence_told(text)
    money = Money(-pence if text.startswith("-") else pence)
    # The same pence are written in one way only: this refuses other orders, noughts, parts too great.
    if str(money) != text:
        raise Unread(text)
    return money


def pence_told(text):
    """The pence of all numbers with units in the text, in whatever order, whether or not a `-` is ahead."""
    pence = 0
    for word in text.removeprefix("-").split(" "):
        many = word[:-1]
        unit = word[-1:]
        if unit not in PENCE_IN or not are_figures(many, MOST_FIGURES):
            raise Unread(text)
        pence += int(many) * PENCE_IN[unit]
    return pence

"""Weights in pounds, ounces and drams."""

from yarnback.errors import Short, Unread
from yarnback.figures import are_figures, parts_in

DRAMS_IN = {"lb": 256, "oz": 16, "dr": 1}
MOST_FIGURES = 12


class Weight:
    """Whole drams: sixteen drams an ounce, sixteen ounces a pound."""

    def __init__(self, pounds=0, ounces=0, drams=0):
        self.drams = pounds * DRAMS_IN["lb"] + ounces * DRAMS_IN["oz"] + drams

    def __eq__(self, other):
        return isinstance(other, Weight) and self.drams == other.drams

    def __str__(self):
        return " ".join(written_parts(self.drams))

    def __repr__(self):
        return f"Weight(drams={self.drams})"

    def plus(self, other):
        """Both together."""
        return Weight(drams=self.drams + other.drams)

    def less(self, other):
        """What is left without the other one, which may not be greater."""
        if other.drams > self.drams:
            raise Short(Weight(drams=other.drams - self.drams))
        return Weight(drams=self.drams - other.drams)

    def times(self, many=2):
        """So many of it."""
        return Weight(drams=self.drams * many)


def written_parts(drams):
    """The parts that are not 0, each with its unit; of nothing `0 dr`."""
    return [f"{many} {unit}" for many, unit in parts_in(drams, dict(DRAMS_IN))] or ["0 dr"]


def read_weight(text):
    """The weight that the text writes, just as weights are written."""
    weight = Weight(drams=drams_told(text))
    # One weight is written in one way only: this refuses other orders, noughts, parts too great.
    if str(weight) != text:
        raise Unread(text)
    return weight


def drams_told(text):
    """The drams of all numbers with units in the text, in whatever order."""
    words = text.split(" ")
    drams = 0
    for many, unit in zip(words[::2], words[1::2]):
        if unit not in DRAMS_IN or not are_figures(many, MOST_FIGURES):
            raise Unread(text)
        drams += int(many) * DRAMS_IN[unit]
    return drams

"""Spans of whole numbers, and what weighings show."""

HUNDRED = 100


class Span:
    """All whole numbers from the least to the most."""

    def __init__(self, least, most=None):
        self.least = least
        self.most = least if most is None else most

    def __eq__(self, other):
        return isinstance(other, Span) and self.least == other.least and self.most == other.most

    def __len__(self):
        return len(range(self.least, self.most + 1))

    def __str__(self):
        if self.least == self.most:
            return str(self.least)
        return f"{self.least} to {self.most}"

    def __repr__(self):
        return f"Span({self.least}, {self.most})"

    def holds(self, number):
        """Whether the number is in the span."""
        return self.least <= number <= self.most

    def plus(self, other):
        """The span of all sums of a number of each."""
        return Span(self.least + other.least, self.most + other.most)

    def widened(self, by=1):
        """The span with so many numbers more at each end, none below 0."""
        return Span(max(0, self.least - by), self.most + by)

    def meet(self, other):
        """The span of the numbers in both, None where there are none."""
        least = max(self.least, other.least)
        most = min(self.most, other.most)
        return Span(least, most) if least <= most else None


def weighed(drams, slack=0):
    """What a weighing of so many drams with this slackness shows."""
    return Span(drams).widened(slack)


def yarn_in(cloth, oil=None):
    """The span of all yarn that can be in cloth of some weight of a span, None where none can."""
    parts = Span(0) if oil is None else oil
    # With its oil, y drams of yarn weigh from y * lightest // 100 to y * heaviest // 100.
    # Both grow with y, so what can be is all from the first y that may reach the least weight
    # to the last one that needn't pass the most.
    lightest = HUNDRED + parts.least
    heaviest = HUNDRED + parts.most
    least = (HUNDRED * cloth.least + heaviest - 1) // heaviest
    most = (HUNDRED * cloth.most + HUNDRED - 1) // lightest
    return Span(least, most) if least <= most else None

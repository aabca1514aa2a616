"""Things to be weighed as ties between homes, pieces and the outside, and the rings that they close."""

OUTSIDE = ("outside",)


def ends_of(thing):
    """The two ends of the tie: a lack lies between its home and the outside, a part between its home and its piece.

    That all lacks end outside makes a way from one lack to another a ring like all others.
    """
    if thing[0] == "home":
        return [("home", thing[1]), OUTSIDE]
    return [("home", thing[2]), ("piece", thing[1])]


class Groups:
    """Which ends are tied together, straight or by others."""

    def __init__(self):
        self.leaders = {}

    def leader(self, end):
        """The one end of its group that stands for all of it."""
        while end in self.leaders:
            end = self.leaders[end]
        return end

    def tie(self, thing):
        """Ties the thing's ends together; tells whether they weren't yet."""
        one, other = [self.leader(end) for end in ends_of(thing)]
        if one == other:
            return False
        self.leaders[one] = other
        return True


def closing_rings(things):
    """The things that close a ring with things ahead of them; without them no ring is closed."""
    groups = Groups()
    return [thing for thing in things if not groups.tie(thing)]


def is_in_ring(thing, things):
    """Whether the thing is in a ring of the things."""
    groups = Groups()
    for other in things:
        if other != thing:
            groups.tie(other)
    return not groups.tie(thing)


def are_ring(things):
    """Whether each end is had by two of the things."""
    counts = counts_of(things)
    return all([many == 2 for many in counts.values()])


def counts_of(things):
    """How many of the things have each end."""
    counts = {}
    for thing in things:
        for end in ends_of(thing):
            counts[end] = counts.get(end, 0) + 1
    return counts


def ties_of(things):
    """Of each end the things that have it, each with its other end."""
    ties = {}
    for thing in things:
        one, other = ends_of(thing)
        ties.setdefault(one, []).append((thing, other))
        ties.setdefault(other, []).append((thing, one))
    return ties


def ways_outside(things):
    """Of each end that the things tie to the outside the things on a way to it."""
    ties = ties_of(things)
    ways = {OUTSIDE: []}
    front = [OUTSIDE]
    while front:
        later = []
        for end in front:
            for thing, far in ties.get(end, []):
                if far not in ways:
                    ways[far] = ways[end] + [thing]
                    later.append(far)
        front = later
    return ways


def ring_with(thing, ways):
    """The others of the ring that the thing closes: what its ends' ways to the outside don't have in common."""
    one, other = [ways[end] for end in ends_of(thing)]
    return [step for step in one if step not in other] + [step for step in other if step not in one]

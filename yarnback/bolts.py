"""Bolts of cloth: ells of pieces, one behind the other."""

from yarnback.errors import Beyond


class Bolt:
    """Ells one behind the other, made of runs (piece, first, last)."""

    def __init__(self, runs=None):
        self._parts = [(piece, first, last) for piece, first, last in runs or ()]
        self._ends = ends_of(self._parts)
        self._long = self._ends[-1] if self._ends else 0

    def __eq__(self, other):
        return isinstance(other, Bolt) and self.runs() == other.runs()

    def __len__(self):
        return len(range(self._long))

    def __str__(self):
        return "; ".join(written_runs(self.runs()))

    def runs(self):
        """Its runs, each from the first on of as many ells as can be."""
        runs = []
        for part in self._parts:
            if runs:
                runs[-1:] = gone_on(runs[-1], part)
            else:
                runs.append(part)
        return runs

    def spot(self, ell):
        """Which ell of which piece stands at this place."""
        if not 0 <= ell < self._long:
            raise Beyond(ell, self._long)
        at = self._part_at(ell)
        return (self._parts[at][0], ell_in(self._parts[at], ell - self._start(at)))

    def cut(self, at):
        """The ells ahead of the place, and the others."""
        if not 0 <= at <= self._long:
            raise Beyond(at, self._long)
        mark = self._part_at(at)
        ahead = self._parts[:mark]
        others = self._parts[mark:]
        within = at - self._start(mark)
        if within > 0:
            piece, first, last = self._parts[mark]
            ahead.append((piece, first, ell_in(self._parts[mark], within - 1)))
            others[0] = (piece, ell_in(self._parts[mark], within), last)
        return (Bolt(ahead), Bolt(others))

    def joined(self, other, turned=False):
        """With the other one behind it, turned about first where it is told so."""
        behind = other.turned() if turned else other
        return Bolt(self._parts + behind._parts)

    def turned(self):
        """Turned about: the last ell first."""
        return Bolt([(piece, last, first) for piece, first, last in self._parts[::-1]])

    def _part_at(self, place):
        """Which part the place is in; behind all of them at the end of the bolt."""
        low = 0
        high = len(self._ends)
        while low < high:
            middle = (low + high) // 2
            if self._ends[middle] <= place:
                low = middle + 1
            else:
                high = middle
        return low

    def _start(self, at):
        """How many ells stand ahead of this part."""
        return self._ends[at - 1] if at > 0 else 0


def ends_of(parts):
    """How many ells there are up to the end of each part."""
    ends = []
    long = 0
    for _, first, last in parts:
        long += abs(last - first) + 1
        ends.append(long)
    return ends


def way_of(run):
    """The step from ell to ell: 1, -1, or 0 of a single ell."""
    _, first, last = run
    if first == last:
        return 0
    return 1 if first < last else -1


def ell_in(run, at):
    """The ell of its piece that the run has at this place."""
    return run[1] + way_of(run) * at


def gone_on(run, part):
    """The runs that a run comes to with a part behind it."""
    piece, first, last = run
    other, start, end = part
    step = start - last
    if other != piece or step not in (1, -1) or way_of(run) not in (0, step):
        return [run, part]
    if way_of(part) in (0, step):
        return [(piece, first, end)]
    # The part goes the other way: its first ell goes on all the same, and the next one begins a run.
    return [(piece, first, start), (piece, start - step, end)]


def written_runs(runs):
    """Each run as `a 0-4`, of a single ell as `c 2`; of none `-`."""
    texts = []
    for piece, first, last in runs:
        texts.append(f"{piece} {first}" if first == last else f"{piece} {first}-{last}")
    return texts or ["-"]

"""What became of the bolts, hour by hour, and whether all that is told of them can be."""

from yarnback.bolts import Bolt
from yarnback.records import homes_in
from yarnback.weaving import maker_at


class History:
    """The bolts behind all lines, whose faults were found on them, and what couldn't be done."""

    def __init__(self, lines):
        self.by_name = {}
        self.found = []
        self.undone = []
        self._weavings = {}
        for line in sorted(lines, key=time_of):
            if not self._done(line.word, line.things):
                self.undone.append(line.number)

    def _done(self, word, things):
        """Whether it can be done; if so, it is."""
        if word == "take":
            return self._take(things["piece"], things["weaving"])
        if word == "sew":
            return self._sew(things["bolt"], things["other"], things["turned"])
        if word == "cut":
            return self._cut(things["bolt"], things["at"], things["rest"])
        return word != "fault" or self._find(things["bolt"], things["ell"], things["pence"])

    def _take(self, piece, weaving):
        self._weavings[piece] = weaving
        self.by_name[piece] = Bolt([(piece, 0, sum([ells for _, ells in weaving]) - 1)])
        return True

    def _sew(self, name, other, turned):
        if name == other or name not in self.by_name or other not in self.by_name:
            return False
        behind = self.by_name.pop(other)
        self.by_name[name] = self.by_name[name].joined(behind, turned)
        return True

    def _cut(self, name, at, rest):
        if name not in self.by_name or not 1 <= at < len(self.by_name[name]):
            return False
        self.by_name[name], self.by_name[rest] = self.by_name[name].cut(at)
        return True

    def _find(self, name, ell, pence):
        if name not in self.by_name or not 0 <= ell < len(self.by_name[name]):
            return False
        piece, spot = self.by_name[name].spot(ell)
        self.found.append((maker_at(self._weavings[piece], spot), piece, pence))
        return True


def time_of(line):
    """By this lines are in the order in which things happen: a fault behind the sewing or the cut of its hour."""
    return (line.day, line.hour, 1 if line.word == "fault" else 0)


def first_broken(lines):
    """The first of the lines, which are in order, that can't be; None where all can."""
    broken = set(History(lines).undone + without_ground(lines))
    for line in lines:
        if line.number in broken:
            return line
    return None


def without_ground(lines):
    """The numbers of takes of homes that weren't given yarn by then, and of pays for pieces that weren't in."""
    given = {}
    came = {}
    for line in lines:
        if line.word == "give":
            given.setdefault((line.things["lot"], line.things["home"]), line.day)
        elif line.word == "take":
            came[line.things["piece"]] = line.day
    return [line.number for line in lines if lacks_ground(line, given, came)]


def lacks_ground(line, given, came):
    """Whether one of these stands without what it needs: first days of gives, days of takes."""
    if line.word == "take":
        needs = [(line.things["lot"], home) for home in homes_in(line.things["weaving"])]
        return any([need not in given or given[need] > line.day for need in needs])
    if line.word == "pay":
        piece = line.things["piece"]
        return piece not in came or came[piece] > line.day
    return False

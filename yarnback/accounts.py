"""What comes to homes, and what is taken off: pays, fines, yarn that was kept, advances."""

from yarnback.checks import yarn_of
from yarnback.errors import NoHome
from yarnback.fitting import fitting_flow
from yarnback.histories import History
from yarnback.lacks import least_lack
from yarnback.money import Money
from yarnback.records import homes_in
from yarnback.shares import split, weights_by
from yarnback.sheets import Sheet
from yarnback.spans import weighed


def sheet_of(lines, lot):
    """The sheet of the lot, by the lines, which are in order."""
    gives = []
    pieces = []
    for line in lines:
        things = line.things
        if line.word == "give" and things["lot"] == lot:
            gives.append((things["home"], weighed(things["drams"], things["slack"]), things["waste"]))
        elif line.word == "take" and things["lot"] == lot:
            pieces.append((things["piece"], yarn_of(things), homes_in(things["weaving"])))
    return Sheet(gives, pieces)


class Reckoning:
    """The accounts of the homes that the lines name; what homes have in common is worked out once."""

    def __init__(self, lines, price):
        self._lines = lines
        self._price = price
        self._lots = {}
        self._takes = {}
        self._pays = {}
        self._advances = {}
        for line in lines:
            self._put(line.word, line.things)
        self._fines = fines_of(History(lines).found)
        self._sheets = {}
        self._flows = {}
        self._parts = {}

    def _put(self, word, things):
        if word == "give":
            self._lots.setdefault(things["home"], []).append(things["lot"])
        elif word == "take":
            self._takes[things["piece"]] = (things["lot"], homes_in(things["weaving"]))
        elif word == "pay":
            self._pays.setdefault(things["piece"], []).append(things["pence"])
        elif word == "advance":
            self._advances.setdefault(things["home"], []).append(things["pence"])

    def homes(self):
        """All homes that were given yarn or had an advance, rising."""
        return sorted(set(list(self._lots) + list(self._advances)))

    def account(self, home):
        """What comes to the home, all in all."""
        if home not in self._lots and home not in self._advances:
            raise NoHome(home)
        lots = sorted(set(self._lots.get(home, [])))
        # That no tale of one of its lots fits is refused ahead of all that may be refused of others.
        for lot in lots:
            self._fit(lot)
        pence = sum([self._earned(piece, home) for piece in self._pays])
        pence = pence - sum([self._kept(lot, home) for lot in lots])
        return Money(pence - sum(self._advances.get(home, [])))

    def _fit(self, lot):
        """Makes ready what is to be known of the lot, refused where no tale fits."""
        if lot not in self._flows:
            self._sheets[lot] = sheet_of(self._lines, lot)
            self._flows[lot] = fitting_flow(self._sheets[lot])

    def _earned(self, piece, home):
        """The home's parts of the pays for the piece, less its fines for ells of it, which come to no more."""
        _, makers = self._takes[piece]
        if home not in makers:
            return 0
        part = self._parts_of(piece)[home]
        return part - min(part, self._fines.get((home, piece), 0))

    def _parts_of(self, piece):
        """What each maker has of all pays for the piece."""
        if piece not in self._parts:
            lot, makers = self._takes[piece]
            weights = weights_by(self._sheets[lot], self._flows[lot], piece)
            shares = [split(pence, weights) for pence in self._pays[piece]]
            self._parts[piece] = {home: sum([share[at] for share in shares]) for at, home in enumerate(makers)}
        return self._parts[piece]

    def _kept(self, lot, home):
        """The price of what the home lacks in each tale beyond its waste."""
        sheet = self._sheets[lot]
        least = least_lack(sheet, self._flows[lot], home)
        return self._price * max(0, least - sheet.waste(home))


def fines_of(found):
    """The pence of all faults of a home in a piece together, by (home, piece)."""
    fines = {}
    for home, piece, pence in found:
        fines[(home, piece)] = fines.get((home, piece), 0) + pence
    return fines

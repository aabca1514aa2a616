"""The book of a house: all that was given out, taken in, done to the cloth and paid."""

from yarnback.accounts import Reckoning, sheet_of
from yarnback.checks import check_free, check_names, check_numbers
from yarnback.errors import Broken, NoPiece, NoRecord
from yarnback.histories import History, first_broken
from yarnback.lines import Line, in_order, up_to
from yarnback.records import copied_record


class Book:
    """Records, each of a day, told in any turn; with the price of a dram, in pence."""

    def __init__(self, price=1):
        self._price = price
        self._told = 0
        self._lines = []

    def __len__(self):
        return len(self._lines)

    def give(self, lot, home, drams, day, slack=0, waste=0):
        """Yarn of the lot is given out to the home."""
        return self.tell(("give", lot, home, drams, day, slack, waste))

    def take(self, lot, piece, drams, weaving, day, slack=0, oil=None):
        """A piece of the lot comes in, woven so."""
        return self.tell(("take", lot, piece, drams, weaving, day, slack, oil))

    def sew(self, bolt, other, day, hour=0, turned=False):
        """The other bolt is joined behind the bolt."""
        return self.tell(("sew", bolt, other, day, hour, turned))

    def cut(self, bolt, at, rest, day, hour=0):
        """The bolt keeps the ells ahead of the place; the others are the rest."""
        return self.tell(("cut", bolt, at, rest, day, hour))

    def fault(self, bolt, ell, pence, day, hour=0):
        """A fault is found at a place of the bolt."""
        return self.tell(("fault", bolt, ell, pence, day, hour))

    def pay(self, piece, pence, day):
        """So much is paid for making the piece."""
        return self.tell(("pay", piece, pence, day))

    def advance(self, home, pence, day):
        """So much is paid ahead to the home."""
        return self.tell(("advance", home, pence, day))

    def tell(self, record):
        """Tells a record as a tuple, as records() has them; its number."""
        line = self._checked(record)
        self._stand(in_order(self._lines + [line]))
        self._told += 1
        return line.number

    def keep(self, record):
        """Tells a record, too, but whether all of them can be isn't looked at yet: others may come that it needs."""
        self._lines = in_order(self._lines + [self._checked(record)])
        self._told += 1

    def broken_number(self):
        """The number of the first record that can't be, None where all can."""
        broken = first_broken(self._lines)
        return None if broken is None else broken.number

    def drop(self, number):
        """Drops the record of this number, as if it had never been told."""
        lines = [line for line in self._lines if line.number != number]
        if len(lines) == len(self._lines):
            raise NoRecord(number)
        self._stand(lines)

    def records(self):
        """All records as tuples, in their order."""
        return [copied_record(line.told) for line in self._lines]

    def sheet(self, lot, day=None):
        """The sheet of the lot, up to the day."""
        return sheet_of(up_to(self._lines, day), lot)

    def sheet_with(self, piece, day=None):
        """The sheet of the lot that the piece is of, up to the day."""
        for line in up_to(self._lines, day):
            if line.word == "take" and line.things["piece"] == piece:
                return self.sheet(line.things["lot"], day)
        raise NoPiece(piece)

    def bolts(self, day=None, hour=None):
        """All bolts by their names, behind all of the day or of an hour of it."""
        return History(up_to(self._lines, day, hour)).by_name

    def blame(self, day=None):
        """How many faults fell on each home, up to the day."""
        blame = {}
        for home, _, _ in History(up_to(self._lines, day)).found:
            blame[home] = blame.get(home, 0) + 1
        return blame

    def account(self, home, day=None):
        """What comes to the home, up to the day."""
        return Reckoning(up_to(self._lines, day), self._price).account(home)

    def accounts(self, day=None):
        """The accounts of all homes that were given yarn or had an advance, up to the day."""
        reckoning = Reckoning(up_to(self._lines, day), self._price)
        return {home: reckoning.account(home) for home in reckoning.homes()}

    def _checked(self, record):
        """The record as a line with its number, refused where by itself or beside the others it can't be taken."""
        check_names(record)
        check_numbers(record)
        check_free(record, self._lines)
        return Line(self._told, copied_record(record))

    def _stand(self, lines):
        """From now on these are the lines, if all of them can be."""
        broken = first_broken(lines)
        if broken is not None:
            raise Broken(copied_record(broken.told))
        self._lines = lines

"""Sheets: what homes got, and the pieces they made."""

from yarnback.errors import NoHome, NoPiece, Twice
from yarnback.spans import Span


class Sheet:
    """Gives of yarn to homes, and pieces made by homes that were given some."""

    def __init__(self, gives=None, pieces=None):
        self._got = {}
        self._waste = {}
        self._yarn = {}
        self._makers = {}
        self._made_by = {}
        for home, got, waste in gives or ():
            self._add_give(home, got, waste)
        for name, yarn, makers in pieces or ():
            self._add_piece(name, yarn, makers)

    def _add_give(self, home, got, waste):
        self._got[home] = self._got.get(home, Span(0)).plus(got)
        self._waste[home] = self._waste.get(home, 0) + waste
        self._made_by.setdefault(home, [])

    def _add_piece(self, name, yarn, makers):
        if name in self._yarn:
            raise Twice(name)
        self._yarn[name] = copied(yarn)
        self._makers[name] = []
        for home in makers:
            self._add_maker(name, home)

    def _add_maker(self, piece, home):
        if home in self._makers[piece]:
            raise Twice(home)
        if home not in self._got:
            raise NoHome(home)
        self._makers[piece].append(home)
        self._made_by[home].append(piece)

    def homes(self):
        """The names of all homes, rising."""
        return sorted(self._got)

    def pieces(self):
        """The names of all pieces, as told."""
        return list(self._yarn)

    def got(self, home):
        """What all gives to the home come to."""
        self._ask_home(home)
        return copied(self._got[home])

    def waste(self, home):
        """What the home is let waste."""
        self._ask_home(home)
        return self._waste[home]

    def yarn(self, piece):
        """The yarn in the piece."""
        self._ask_piece(piece)
        return copied(self._yarn[piece])

    def makers(self, piece):
        """The homes that made the piece, as told."""
        self._ask_piece(piece)
        return list(self._makers[piece])

    def made_by(self, home):
        """The pieces that the home made or helped to make, as told."""
        self._ask_home(home)
        return list(self._made_by[home])

    def _ask_home(self, home):
        if home not in self._got:
            raise NoHome(home)

    def _ask_piece(self, piece):
        if piece not in self._yarn:
            raise NoPiece(piece)


def copied(span):
    """A span of its own: whoever has the other one may change that."""
    return Span(span.least, span.most)


def parts_of(sheet):
    """All (piece, home): the pieces as told, of each its makers as told."""
    return [(piece, home) for piece in sheet.pieces() for home in sheet.makers(piece)]

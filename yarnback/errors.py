"""All refusals of the program, each straight under a class of Python."""


class Unread(ValueError):
    """A text that writes nothing of the kind that is read."""

    def __init__(self, text):
        ValueError.__init__(self, f"can't be read: {text!r}")
        self.text = text


class Twice(ValueError):
    """A name that is told a second time."""

    def __init__(self, name):
        ValueError.__init__(self, f"told twice: {name!r}")
        self.name = name


class NoName(ValueError):
    """A thing that ought to be a name and is none."""

    def __init__(self, name):
        ValueError.__init__(self, f"no name: {name!r}")
        self.name = name


class NoNumber(ValueError):
    """A number that can't be: ells below 1, oil with no yarn for it."""


class Taken(ValueError):
    """A name that another piece or rest has."""

    def __init__(self, name):
        ValueError.__init__(self, f"the name is taken: {name!r}")
        self.name = name


class SameHour(ValueError):
    """A sewing or a cut of an hour that has one."""

    def __init__(self, day, hour):
        ValueError.__init__(self, f"day {day} has a sewing or a cut in hour {hour}")
        self.day = day
        self.hour = hour


class NoRow(ValueError):
    """A row of a book's text that is no record's or that the book refuses."""

    def __init__(self, row):
        ValueError.__init__(self, f"row {row} can't be taken")
        self.row = row


class NoAsk(ValueError):
    """A row that the desk doesn't know."""

    def __init__(self, row):
        ValueError.__init__(self, f"nothing that is asked here: {row!r}")
        self.row = row


class NoHome(KeyError):
    """A name that is no home's."""

    def __init__(self, name):
        KeyError.__init__(self, f"no home: {name!r}")
        self.name = name


class NoPiece(KeyError):
    """A name that is no piece's."""

    def __init__(self, name):
        KeyError.__init__(self, f"no piece: {name!r}")
        self.name = name


class NoMaker(LookupError):
    """A home that is none of a piece's makers."""

    def __init__(self, piece, home):
        LookupError.__init__(self, f"{home!r} is no maker of {piece!r}")
        self.piece = piece
        self.home = home


class Unsure(LookupError):
    """A thing that what was weighed doesn't leave one number."""

    def __init__(self, thing):
        LookupError.__init__(self, f"not left one number: {thing!r}")
        self.thing = thing


class NoRecord(LookupError):
    """A number that no record that stands has."""

    def __init__(self, number):
        LookupError.__init__(self, f"no record has the number {number}")
        self.number = number


class Beyond(IndexError):
    """An ell or a place that is beyond what has so many ells."""

    def __init__(self, ell, long):
        IndexError.__init__(self, f"{ell} is beyond {long} ells")
        self.ell = ell
        self.long = long


class Short(ArithmeticError):
    """A weight that is to be made less by a greater one."""

    def __init__(self, by):
        ArithmeticError.__init__(self, f"too little by {by}")
        self.by = by


class Unfit(ArithmeticError):
    """A sheet that no tale fits."""

    def __init__(self, paper):
        ArithmeticError.__init__(self, f"no tale fits: {paper!r}")
        self.paper = paper


class Crossed(ArithmeticError):
    """Weighings that no numbers from 0 on agree with."""


class NothingMade(ZeroDivisionError):
    """Pence that are to be split by weights that come to 0."""


class Broken(RuntimeError):
    """A record that can't be, or with which another one can't be."""

    def __init__(self, record):
        RuntimeError.__init__(self, f"can't be: {record!r}")
        self.record = record

"""The desk: a book that is told rows, and answers with texts."""

from yarnback.book import Book
from yarnback.errors import NoAsk, Unread
from yarnback.figures import is_number
from yarnback.fitting import tale_of
from yarnback.lacks import lack_of, verdict
from yarnback.logs import rows_of
from yarnback.records import FIELDS, is_name
from yarnback.rows import read_record
from yarnback.shares import share_of


def told_lack(book, names, day):
    """What the home lacks of the lot."""
    lot, home = names
    return str(lack_of(book.sheet(lot, day), home))


def told_verdict(book, names, day):
    """What is to be said of the home by the lot."""
    lot, home = names
    return verdict(book.sheet(lot, day), home)


def told_share(book, names, day):
    """What the home put into the piece."""
    piece, home = names
    return str(share_of(book.sheet_with(piece, day), piece, home))


def told_account(book, names, day):
    """The home's account."""
    return str(book.account(names[0], day))


def told_blame(book, names, day):
    """How many faults fell on the home."""
    return str(book.blame(day).get(names[0], 0))


def told_bolt(book, names, day):
    """The bolt, or that there is none of this name."""
    bolts = book.bolts(day)
    return str(bolts[names[0]]) if names[0] in bolts else "none"


def told_tale(book, names, day):
    """Whether a tale fits the lot, or the paper that shows that none does."""
    kind, told = tale_of(book.sheet(names[0], day))
    if kind == "tale":
        return "fits"
    word, pieces = told
    return " ".join([word, *pieces])


ASKS = {
    "lack": told_lack,
    "verdict": told_verdict,
    "share": told_share,
    "account": told_account,
    "blame": told_blame,
    "bolt": told_bolt,
    "tale": told_tale,
}
NAMES_OF = {"lack": 2, "verdict": 2, "share": 2, "account": 1, "blame": 1, "bolt": 1, "tale": 1}


class Desk:
    """A book of a price, told and asked by rows."""

    def __init__(self, price=1):
        self._book = Book(price)

    def say(self, row):
        """The answer to the row."""
        if not isinstance(row, str):
            raise NoAsk(row)
        words = row.split(" ")
        if words[0] in FIELDS:
            return self._tell(row)
        if words[0] == "drop":
            return self._drop(row, words[1:])
        if row == "log":
            return " / ".join(rows_of(self._book))
        return self._answer(row, words)

    def _tell(self, row):
        """Tells the book the record of the row."""
        try:
            record = read_record(row)
        except Unread:
            raise NoAsk(row) from None
        return f"ok {self._book.tell(record)}"

    def _drop(self, row, words):
        """Drops a record by its number."""
        if len(words) != 1 or not is_number(words[0]):
            raise NoAsk(row)
        self._book.drop(int(words[0]))
        return "ok"

    def _answer(self, row, words):
        """Asks the book, of names and perhaps up to a day."""
        if words[0] not in ASKS:
            raise NoAsk(row)
        many = 1 + NAMES_OF[words[0]]
        names = words[1:many]
        days = [day_in(word) for word in words[many:]]
        if len(words) not in (many, many + 1) or not all([is_name(name) for name in names]) or None in days:
            raise NoAsk(row)
        answer = ASKS[words[0]]
        return answer(self._book, names, days[0] if days else None)


def day_in(word):
    """The day that the word writes as `day=D`, None where it writes none."""
    field, _, day = word.partition("=")
    return int(day) if field == "day" and is_number(day) else None

"""Books written as texts, and read."""

from yarnback.book import Book
from yarnback.errors import NoName, NoNumber, NoRow, SameHour, Taken, Unread
from yarnback.rows import read_record, show_record


def show_book(book):
    """The rows of all records, in their order."""
    return "\n".join(rows_of(book))


def rows_of(book):
    """The rows of all records as a list."""
    return [show_record(record) for record in book.records()]


def read_book(text, price=1):
    """The book of the rows of the text, which may stand in any turn."""
    book = Book(price)
    # A text without signs has no row; one that ends with a line feed has a last row without signs.
    rows = text.split("\n") if text else []
    for at, row in enumerate(rows):
        put_row(book, at, row)
    broken = book.broken_number()
    if broken is not None:
        raise NoRow(broken)
    return book


def put_row(book, at, row):
    """Puts the record of the row that stands at this place into the book."""
    try:
        book.keep(read_record(row))
    except (Unread, NoName, NoNumber, Taken, SameHour):
        raise NoRow(at) from None

"""Records that stand in a book, in the order in which they are told."""

from yarnback.records import things_in
from yarnback.rows import show_record

NO_HOUR = -1


class Line:
    """A record with its number, and what says where it comes among others."""

    def __init__(self, number, record):
        self.number = number
        self.told = record
        self.word = record[0]
        self.things = things_in(record)
        self.day = self.things["day"]
        self.hour = self.things.get("hour", NO_HOUR)
        self.text = show_record(record)


def place_of(line):
    """By this lines are in order: by days, hours (without one ahead of all), texts."""
    return (line.day, line.hour, line.text, line.number)


def in_order(lines):
    """The lines in their order."""
    return sorted(lines, key=place_of)


def up_to(lines, day, hour=None):
    """Those of no later day, and on this day itself of no later hour, where these are told."""
    if day is None:
        return lines
    return [line for line in lines if line.day < day or line.day == day and (hour is None or line.hour <= hour)]

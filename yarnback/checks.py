"""What a record is refused for by itself, and by the names and the hours that others have."""

from yarnback.errors import NoName, NoNumber, SameHour, Taken
from yarnback.records import NAMES, is_name, things_in
from yarnback.spans import weighed, yarn_in


def check_names(record):
    """Refused with NoName: the first by its place that ought to be a name and is none."""
    for field, thing in things_in(record).items():
        if field in NAMES:
            check_name(thing)
        elif field == "weaving":
            for home, _ in thing:
                check_name(home)


def check_name(thing):
    """Refused with NoName where it is none."""
    if not is_name(thing):
        raise NoName(thing)


def check_numbers(record):
    """Refused with NoNumber: what can't be woven, or weighed with such oil."""
    if record[0] != "take":
        return
    things = things_in(record)
    if not all([is_whole(ells) and ells >= 1 for _, ells in things["weaving"]]):
        raise NoNumber("the ells of a weaving are from 1 on")
    if yarn_of(things) is None:
        raise NoNumber("no yarn weighs this with such oil")


def is_whole(thing):
    """Whether it is a whole number, as the document has it."""
    return isinstance(thing, int) and not isinstance(thing, bool)


def yarn_of(things):
    """The yarn in the cloth that is taken in, None where there can't be any."""
    return yarn_in(weighed(things["drams"], things["slack"]), things["oil"])


def check_free(record, lines):
    """Refused with Taken or SameHour: a name or an hour that another one has."""
    things = things_in(record)
    name = new_name(record[0], things)
    if name is not None and name in [new_name(line.word, line.things) for line in lines]:
        raise Taken(name)
    hour = used_hour(record[0], things)
    if hour is not None and hour in [used_hour(line.word, line.things) for line in lines]:
        raise SameHour(things["day"], things["hour"])


def new_name(word, things):
    """The name of the piece or the rest that such a record tells of, None of others."""
    if word == "take":
        return things["piece"]
    return things["rest"] if word == "cut" else None


def used_hour(word, things):
    """The day and the hour of a sewing or a cut, None of others."""
    return (things["day"], things["hour"]) if word in ("sew", "cut") else None

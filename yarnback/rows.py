"""Records written as rows, and read."""

from yarnback.errors import Unread
from yarnback.figures import is_number
from yarnback.records import FIELDS, NAMES, UNTOLD, is_name, things_in
from yarnback.spans import HUNDRED, Span


def show_record(record):
    """The row of the record."""
    told = things_in(record)
    words = [record[0]]
    for field in fields_ahead(record[0]):
        words.append(show_thing(field, told[field]))
    words.append(f"day={told['day']}")
    for field, untold in UNTOLD.items():
        if field in told and told[field] != untold:
            words.append(f"{field}={show_thing(field, told[field])}")
    return " ".join(words)


def fields_ahead(word):
    """The fields of such a record that stand ahead of its day."""
    fields = FIELDS[word]
    return fields[:fields.index("day")]


def show_thing(field, thing):
    """What a record has in this field, as it is written."""
    if field == "weaving":
        return "+".join([f"{home}*{ells}" for home, ells in thing])
    if field == "oil":
        return str(thing.least) if thing.least == thing.most else f"{thing.least}-{thing.most}"
    if field == "turned":
        # Where it isn't turned this isn't written.
        return "yes"
    return str(thing)


def read_record(text):
    """The record that the text writes."""
    try:
        return record_in(text.split(" "))
    except Unread:
        # What couldn't be read is one word; refused is the text.
        raise Unread(text) from None


def record_in(words):
    """The record of the words of a row."""
    word = words[0]
    if word not in FIELDS:
        raise Unread(word)
    ahead = fields_ahead(word)
    behind = words[1 + len(ahead):]
    if not behind or not behind[0].startswith("day="):
        raise Unread(word)
    told = {field: read_thing(field, thing) for field, thing in zip(ahead, words[1:])}
    for option in behind:
        field, _, thing = option.partition("=")
        if field in told or field not in FIELDS[word]:
            raise Unread(option)
        told[field] = read_thing(field, thing)
    things = [told[field] if field in told else UNTOLD[field] for field in FIELDS[word]]
    return (word, *things)


def read_thing(field, word):
    """What the word writes, in this field of a record."""
    if field == "weaving":
        return tuple([read_woven(part) for part in word.split("+")])
    if field == "oil":
        return read_oil(word)
    if field == "turned":
        return read_turned(word)
    if field in NAMES:
        return read_name(word)
    return read_number(word)


def read_name(word):
    """The name."""
    if not is_name(word):
        raise Unread(word)
    return word


def read_number(word):
    """The number, of at most fifteen figures."""
    if not is_number(word):
        raise Unread(word)
    return int(word)


def read_woven(word):
    """(home, ells), as `ann*5`."""
    home, _, ells = word.partition("*")
    return (read_name(home), read_number(ells))


def read_oil(word):
    """The span of parts in a hundred, as `3-5`, or `3` of one number."""
    least, sign, most = word.partition("-")
    oil = Span(read_number(least), read_number(most) if sign else None)
    # One number is written once, so behind a sign stands a greater one.
    if oil.most > HUNDRED or sign and oil.least >= oil.most:
        raise Unread(word)
    return oil


def read_turned(word):
    """Whether it is turned about."""
    if word not in ("yes", "no"):
        raise Unread(word)
    return word == "yes"

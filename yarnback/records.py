"""Records as plain tuples: a word, and what was handed in behind it, all of it, by its places."""

from yarnback.sheets import copied

FIELDS = {
    "give": ("lot", "home", "drams", "day", "slack", "waste"),
    "take": ("lot", "piece", "drams", "weaving", "day", "slack", "oil"),
    "sew": ("bolt", "other", "day", "hour", "turned"),
    "cut": ("bolt", "at", "rest", "day", "hour"),
    "fault": ("bolt", "ell", "pence", "day", "hour"),
    "pay": ("piece", "pence", "day"),
    "advance": ("home", "pence", "day"),
}
NAMES = ("lot", "home", "piece", "bolt", "other", "rest")
UNTOLD = {"hour": 0, "slack": 0, "waste": 0, "oil": None, "turned": False}
LONGEST_NAME = 12


def is_name(thing):
    """Whether the thing, whatever it is, is a name."""
    if not isinstance(thing, str) or len(thing) > LONGEST_NAME:
        return False
    return thing.isascii() and thing.isalpha() and thing.islower()


def things_in(record):
    """What the record was handed, by the names that stand in the interface."""
    return dict(zip(FIELDS[record[0]], record[1:]))


def homes_in(weaving):
    """The homes that wove, each once, in their order."""
    homes = []
    for home, _ in weaving:
        if home not in homes:
            homes.append(home)
    return homes


def copied_record(record):
    """A record of its own: whoever has the other one may change what stands in it."""
    things = [copied_thing(field, thing) for field, thing in things_in(record).items()]
    return (record[0], *things)


def copied_thing(field, thing):
    """The thing as records have it, which nobody else has."""
    if field == "weaving":
        return tuple([(home, ells) for home, ells in thing])
    if field == "oil" and thing is not None:
        return copied(thing)
    return thing

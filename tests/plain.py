"""What a book tells, straight by the document: bolts as lists of ells, all gone through again for each thing asked."""

from yarnback.lacks import lack_of, verdict
from yarnback.sheets import Sheet
from yarnback.shares import pay_of
from yarnback.spans import weighed, yarn_in

HOURS = {"sew": 4, "cut": 5, "fault": 5}
DAYS = {"give": 4, "take": 5, "sew": 3, "cut": 4, "fault": 4, "pay": 3, "advance": 3}


def day_of(record):
    return record[DAYS[record[0]]]


def hour_of(record):
    return record[HOURS[record[0]]] if record[0] in HOURS else None


def row_of(record):
    """The row of the record, written out word by word."""
    word, *rest = record
    if word == "give":
        lot, home, drams, day, slack, waste = rest
        return f"give {lot} {home} {drams} day={day}" + option("slack", slack, 0) + option("waste", waste, 0)
    if word == "take":
        lot, piece, drams, weaving, day, slack, oil = rest
        woven = "+".join(f"{home}*{ells}" for home, ells in weaving)
        told = f"take {lot} {piece} {drams} {woven} day={day}" + option("slack", slack, 0)
        if oil is not None:
            told += f" oil={oil.least}" + (f"-{oil.most}" if oil.most != oil.least else "")
        return told
    if word == "sew":
        bolt, other, day, hour, turned = rest
        return f"sew {bolt} {other} day={day}" + option("hour", hour, 0) + (" turned=yes" if turned else "")
    if word == "cut":
        bolt, at, name, day, hour = rest
        return f"cut {bolt} {at} {name} day={day}" + option("hour", hour, 0)
    if word == "fault":
        bolt, ell, pence, day, hour = rest
        return f"fault {bolt} {ell} {pence} day={day}" + option("hour", hour, 0)
    return f"{word} {rest[0]} {rest[1]} day={rest[2]}"


def option(field, thing, untold):
    return "" if thing == untold else f" {field}={thing}"


def in_order(records):
    def place(record):
        hour = hour_of(record)
        return (day_of(record), hour is not None, hour or 0, row_of(record))

    return sorted(records, key=place)


def told_up_to(records, day=None, hour=None):
    found = []
    for record in in_order(records):
        if day is not None and day_of(record) > day:
            continue
        if hour is not None and day_of(record) == day and hour_of(record) is not None and hour_of(record) > hour:
            continue
        found.append(record)
    return found


def weavings_of(records):
    """Who wove each piece, home by home for each ell."""
    return {record[2]: [home for home, ells in record[4] for _ in range(ells)]
            for record in records if record[0] == "take"}


def played(records):
    """(bolts as lists of ells, (record, home, piece, pence) of faults, records of bolts that can't be)."""
    bolts, found, broken = {}, [], []
    weavings = weavings_of(records)
    for day in sorted({day_of(record) for record in records}):
        todays = [record for record in records if day_of(record) == day]
        for record in todays:
            if record[0] == "take":
                bolts[record[2]] = [(record[2], ell) for ell in range(len(weavings[record[2]]))]
        for hour in sorted({hour_of(record) for record in todays if record[0] in HOURS}):
            now = [record for record in todays if hour_of(record) == hour]
            for record in now:
                if record[0] == "sew":
                    sew(bolts, record, broken)
                elif record[0] == "cut":
                    cut(bolts, record, broken)
            for record in now:
                if record[0] == "fault":
                    find(bolts, weavings, record, found, broken)
    return bolts, found, broken


def sew(bolts, record, broken):
    _, bolt, other, _, _, turned = record
    if bolt == other or bolt not in bolts or other not in bolts:
        broken.append(record)
        return
    ells = bolts.pop(other)
    bolts[bolt] = bolts[bolt] + (ells[::-1] if turned else ells)


def cut(bolts, record, broken):
    _, bolt, at, rest, _, _ = record
    if bolt not in bolts or at < 1 or at >= len(bolts[bolt]):
        broken.append(record)
        return
    bolts[bolt], bolts[rest] = bolts[bolt][:at], bolts[bolt][at:]


def find(bolts, weavings, record, found, broken):
    _, bolt, ell, pence, _, _ = record
    if bolt not in bolts or ell >= len(bolts[bolt]):
        broken.append(record)
        return
    piece, spot = bolts[bolt][ell]
    found.append((record, weavings[piece][spot], piece, pence))


def first_broken(records):
    """The first record in order that can't be, None where all can."""
    broken = list(played(records)[2])
    gives = [record for record in records if record[0] == "give"]
    takes = [record for record in records if record[0] == "take"]
    for record in takes:
        for home, _ in record[4]:
            if not any(give[1:3] == (record[1], home) and give[4] <= record[5] for give in gives):
                broken.append(record)
    for record in records:
        if record[0] == "pay" and not any(take[2] == record[1] and take[5] <= record[3] for take in takes):
            broken.append(record)
    ordered = in_order(broken)
    return ordered[0] if ordered else None


def refusal_of(records, new):
    """What the new record is refused with, beside names: (name of the refusal, its fields), or None."""
    if new[0] == "take":
        if any(ells < 1 for _, ells in new[4]) or yarn_in(weighed(new[3], new[6]), new[7]) is None:
            return ("NoNumber", {})
    place = {"take": 2, "cut": 3}
    if new[0] in place:
        name = new[place[new[0]]]
        if name in [record[place[record[0]]] for record in records if record[0] in place]:
            return ("Taken", {"name": name})
    if new[0] in ("sew", "cut"):
        used = [(day_of(record), hour_of(record)) for record in records if record[0] in ("sew", "cut")]
        if (day_of(new), hour_of(new)) in used:
            return ("SameHour", {"day": day_of(new), "hour": hour_of(new)})
    broken = first_broken(records + [new])
    return None if broken is None else ("Broken", {"record": broken})


def sheet_of(records, lot, day=None):
    gives, pieces = [], []
    for record in told_up_to(records, day):
        if record[0] == "give" and record[1] == lot:
            gives.append((record[2], weighed(record[3], record[5]), record[6]))
        if record[0] == "take" and record[1] == lot:
            makers = list(dict.fromkeys(home for home, _ in record[4]))
            pieces.append((record[2], yarn_in(weighed(record[3], record[6]), record[7]), makers))
    return Sheet(gives, pieces)


def shown_sheet(sheet):
    """All that a sheet tells."""
    homes = {home: (str(sheet.got(home)), sheet.waste(home), sheet.made_by(home)) for home in sheet.homes()}
    return homes, [(piece, str(sheet.yarn(piece)), sheet.makers(piece)) for piece in sheet.pieces()]


def blame_of(records, day=None):
    blame = {}
    for _, home, _, _ in played(told_up_to(records, day))[1]:
        blame[home] = blame.get(home, 0) + 1
    return blame


def homes_of(records, day=None):
    told = told_up_to(records, day)
    return sorted({record[2] for record in told if record[0] == "give"}
                  | {record[1] for record in told if record[0] == "advance"})


def account_of(records, price, home, day=None):
    """The pence of the account, where nothing of it is refused."""
    told = told_up_to(records, day)
    takes = {record[2]: record for record in told if record[0] == "take"}
    parts = {}
    for _, piece, pence, _ in [record for record in told if record[0] == "pay"]:
        for maker, part in pay_of(sheet_of(told, takes[piece][1]), piece, pence):
            if maker == home:
                parts[piece] = parts.get(piece, 0) + part
    total = sum(parts.values())
    for piece in parts:
        fines = [pence for _, maker, spot, pence in played(told)[1] if (maker, spot) == (home, piece)]
        total -= min(sum(fines), parts[piece])
    for lot in sorted({record[1] for record in told if record[0] == "give" and record[2] == home}):
        sheet = sheet_of(told, lot)
        if verdict(sheet, home) == "keeps":
            total -= price * (lack_of(sheet, home).least - sheet.waste(home))
    return total - sum(record[2] for record in told if record[0] == "advance" and record[1] == home)

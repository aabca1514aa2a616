"""Tales of a sheet: what each home got just so, and what it put into each piece."""

from yarnback.sheets import parts_of


def fault_of(sheet, tale):
    """The first thing that keeps the tale from fitting the sheet, None where it fits."""
    if not has_form(sheet, tale):
        return ("form",)
    # Kind behind kind: a later kind counts only where all ahead of it are without a fault.
    faults = got_faults(sheet, tale) + share_faults(tale) + yarn_faults(sheet, tale) + lack_faults(tale)
    return faults[0] if faults else None


def lack_in(tale, home):
    """What the home got in the tale, less all its shares."""
    return lacks_in(tale)[home]


def has_form(sheet, tale):
    """Whether the tale names just what the sheet has, in its order."""
    got, shares = tale
    homes = [home for home, _ in got]
    parts = [(piece, home) for piece, home, _ in shares]
    return homes == sheet.homes() and parts == parts_of(sheet)


def lacks_in(tale):
    """What each home got less all its shares, homes as the tale has them."""
    got, shares = tale
    lacks = {home: drams for home, drams in got}
    for _, home, drams in shares:
        lacks[home] -= drams
    return lacks


def got_faults(sheet, tale):
    """The homes whose got is not in its span."""
    return [("got", home) for home, drams in tale[0] if not sheet.got(home).holds(drams)]


def share_faults(tale):
    """The shares below 0."""
    return [("share", piece, home) for piece, home, drams in tale[1] if drams < 0]


def yarn_faults(sheet, tale):
    """The pieces whose shares together are not in the span of their yarn."""
    sums = {piece: 0 for piece in sheet.pieces()}
    for piece, _, drams in tale[1]:
        sums[piece] += drams
    return [("yarn", piece) for piece, drams in sums.items() if not sheet.yarn(piece).holds(drams)]


def lack_faults(tale):
    """The homes that lack less than 0."""
    return [("lack", home) for home, drams in lacks_in(tale).items() if drams < 0]

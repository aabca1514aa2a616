"""Papers: what shows that no tale fits, or none with some homes fair."""


def bars(sheet, paper, fair=None):
    """Whether the paper shows that in no tale each of the fair homes lacks no more than its waste."""
    word, names = paper
    if word == "short":
        return rise_in(names, sheet.pieces()) and want_more(sheet, names)
    return word == "over" and rise_in(names, fair or ()) and put_more(sheet, names)


def must_put(sheet, home):
    """The least that the home put into pieces if it lacks no more than its waste."""
    return max(0, sheet.got(home).least - sheet.waste(home))


def rise_in(names, known):
    """Whether the names rise, each once, and each is a known one."""
    return list(names) == sorted(set(names)) and not [name for name in names if name not in known]


def want_more(sheet, pieces):
    """Whether the pieces hold more than all their makers got."""
    makers = sorted({home for piece in pieces for home in sheet.makers(piece)})
    least = sum([sheet.yarn(piece).least for piece in pieces])
    return least > sum([sheet.got(home).most for home in makers])


def put_more(sheet, homes):
    """Whether the homes, as fair ones, put in more than all their pieces can hold."""
    made = sorted({piece for home in homes for piece in sheet.made_by(home)})
    least = sum([must_put(sheet, home) for home in homes])
    return least > sum([sheet.yarn(piece).most for piece in made])

"""What a maker may have put into a piece, and pay that is split by it."""

from yarnback.errors import NoMaker, NothingMade
from yarnback.fitting import fitting_flow


def share_of(sheet, piece, home):
    """The span of what the home put into the piece in all tales that fit."""
    if home not in sheet.makers(piece):
        raise NoMaker(piece, home)
    return fitting_flow(sheet).share_span(piece, home)


def split(pence, weights):
    """The pence for each weight: what it comes to, then one each where most was cut off."""
    total = sum(weights)
    if total == 0:
        return split_by_nothing(pence, weights)
    parts = [pence * weight // total for weight in weights]
    rests = sorted([(-(pence * weight % total), at) for at, weight in enumerate(weights)])
    for _, at in rests[:pence - sum(parts)]:
        parts[at] += 1
    return parts


def split_by_nothing(pence, weights):
    """Noughts where there are no pence to split; refused else."""
    if pence > 0:
        raise NothingMade("nothing was made that the pence could be split by")
    return [0 for _ in weights]


def pay_of(sheet, piece, pence):
    """What each maker of the piece gets of its pay, by what it could have put in."""
    makers = sheet.makers(piece)
    flow = fitting_flow(sheet)
    weights = [flow.share_span(piece, home).most for home in makers]
    return list(zip(makers, split(pence, weights)))

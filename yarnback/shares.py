"""What a maker may have put into a piece, and pay that is split by it."""

from yarnback.errors import NoMaker, NothingMade
from yarnback.fitting import fitting_flow
from yarnback.spans import Span


def share_of(sheet, piece, home):
    """The span of what the home put into the piece in all tales that fit."""
    if home not in sheet.makers(piece):
        raise NoMaker(piece, home)
    flow = fitting_flow(sheet)
    return Span(flow.least_share(piece, home), flow.most_share(piece, home))


def split(pence, weights):
    """The pence for each weight: what it comes to, then one each where most was cut off."""
    total = sum(weights)
    if total == 0:
        return split_by_nothing(pence, weights)
    parts = [pence * weight // total for weight in weights]
    rests = sorted([(-(pence * weight % total), at) for at, weight in enumerate(weights)])
    for _, at in rests[:pence - sum(parts)]:
        parts[at] += 1
    return parts


def split_by_nothing(pence, weights):
    """Noughts where there are no pence to split; refused else."""
    if pence > 0:
        raise NothingMade("nothing was made that the pence could be split by")
    return [0 for _ in weights]


def pay_of(sheet, piece, pence):
    """What each maker of the piece gets of its pay, by what it could have put in."""
    # What is no piece is refused ahead of what doesn't fit.
    makers = sheet.makers(piece)
    return list(zip(makers, split(pence, weights_by(sheet, fitting_flow(sheet), piece))))


def weights_by(sheet, flow, piece):
    """What each maker could have put into the piece at most, by a flow of some tale of the sheet."""
    return [flow.most_share(piece, home) for home in sheet.makers(piece)]

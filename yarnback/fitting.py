"""A tale that fits a sheet, or a paper that shows that there is none."""

from yarnback.errors import Unfit
from yarnback.flows import Flow
from yarnback.papers import must_put
from yarnback.sheets import parts_of
from yarnback.spans import Span


def tale_of(sheet, fair=None):
    """("tale", one in which the fair homes lack no more than their waste), or ("barred", a paper that bars such)."""
    flow = Flow(sheet, puts_of(sheet, fair or ()))
    paper = flow.run()
    if paper is not None:
        return ("barred", paper)
    return ("tale", tale_from(sheet, flow, {}))


def puts_of(sheet, fair):
    """Of each home the span of all that it may have put into pieces, as far as it alone is looked at."""
    puts = {}
    for home in sheet.homes():
        least = must_put(sheet, home) if home in fair else 0
        puts[home] = Span(least, sheet.got(home).most)
    return puts


def tale_from(sheet, flow, lacks):
    """The tale of what flows so, with the lacks that are told, the least ones else."""
    got = []
    for home in sheet.homes():
        put = flow.put(home)
        lack = lacks.get(home, max(0, sheet.got(home).least - put))
        got.append((home, put + lack))
    shares = [(piece, home, flow.share(piece, home)) for piece, home in parts_of(sheet)]
    return (tuple(got), tuple(shares))


def fitting_flow(sheet):
    """A flow of some tale of the sheet, refused where no tale fits."""
    flow = Flow(sheet, puts_of(sheet, ()))
    paper = flow.run()
    if paper is not None:
        raise Unfit(paper)
    return flow

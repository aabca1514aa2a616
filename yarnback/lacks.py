"""What a home may lack, what is to be said of it, and tales in which it lacks just so much."""

from yarnback.fitting import fitting_flow, puts_of, tale_from
from yarnback.flows import Flow
from yarnback.spans import Span


def lack_of(sheet, home):
    """The span of what the home lacks in all tales that fit."""
    got = sheet.got(home)
    flow = fitting_flow(sheet)
    return Span(least_lack(sheet, flow, home), got.most - flow.least_put(home))


def least_lack(sheet, flow, home):
    """The least that the home lacks, by a flow of some tale of the sheet."""
    # It is lacking where the home got the least and put in the most, or got all that it put in.
    return max(0, sheet.got(home).least - flow.most_put(home))


def verdict(sheet, home):
    """`keeps`, `fair` or `may be`."""
    lack = lack_of(sheet, home)
    waste = sheet.waste(home)
    if lack.least > waste:
        return "keeps"
    return "fair" if lack.most <= waste else "may be"


def tale_with(sheet, home, lack):
    """A tale that fits in which the home lacks just so much, None where there is none."""
    if not lack_of(sheet, home).holds(lack):
        return None
    got = sheet.got(home)
    # Some tale has this lack, so what is put in by this home alone needs other bounds, and it can flow so.
    puts = puts_of(sheet, ())
    puts[home] = Span(max(0, got.least - lack), got.most - lack)
    flow = Flow(sheet, puts)
    flow.run()
    return tale_from(sheet, flow, {home: lack})

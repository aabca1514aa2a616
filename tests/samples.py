"""Sheets for the tests, and tales as the document tells of them, gone through one by one."""

import itertools
import random

from yarnback.sheets import Sheet
from yarnback.spans import Span

GREAT = 999999999999999


def make(gives, pieces):
    """A sheet of plain numbers: (home, least, most, waste) and (piece, least, most, "home home")."""
    return Sheet(
        [(home, Span(least, most), waste) for home, least, most, waste in gives],
        [(piece, Span(least, most), makers.split()) for piece, least, most, makers in pieces],
    )


def changed(sheet, gots=None, wastes=None, yarns=None, scale=1):
    """The sheet with some spans and wastes otherwise, all of them scaled."""
    gots, wastes, yarns = gots or {}, wastes or {}, yarns or {}

    def scaled(span):
        return Span(span.least * scale, span.most * scale)

    gives = [(home, scaled(gots.get(home, sheet.got(home))), wastes.get(home, sheet.waste(home)) * scale)
             for home in sheet.homes()]
    pieces = [(piece, scaled(yarns.get(piece, sheet.yarn(piece))), sheet.makers(piece)) for piece in sheet.pieces()]
    return Sheet(gives, pieces)


def small_sheet(chance):
    homes = ["ann", "bob", "cleo"][:chance.randint(1, 3)]
    gives = []
    for home in chance.sample(homes, len(homes)) + chance.sample(homes, chance.randint(0, 1)):
        least = chance.randint(0, 4)
        gives.append((home, Span(least, least + chance.choice([0, 0, 1, 2])), chance.randint(0, 2)))
    pieces = []
    # A piece may have a home's name.
    for name in chance.sample(["rug", "hat", "bob"], chance.randint(0, 3)):
        least = chance.randint(0, 4)
        makers = chance.sample(homes, chance.randint(1, len(homes)))
        pieces.append((name, Span(least, least + chance.choice([0, 0, 1, 2])), makers))
    return Sheet(gives, pieces)


def small_sheets(many, seed):
    """So many small sheets, always the same ones for a seed."""
    chance = random.Random(seed)
    return [small_sheet(chance) for _ in range(many)]


def great_tale(chance, homes=40, pieces=40, most=GREAT):
    """(gives, pieces, tale): a tale that is known, and the weighings of it, some of them slack."""
    names = sorted(chance.sample([a + b for a in "abcdefgh" for b in "stuvwxyz"], homes))
    puts = {home: 0 for home in names}
    shares, rows = [], []
    for at in chance.sample(range(pieces), pieces):
        piece = "rug" + chr(97 + at // 26) + chr(97 + at % 26)
        makers = chance.sample(names, chance.randint(1, min(8, homes)))
        parts = [chance.choice([0, 1, chance.randint(0, most)]) for _ in makers]
        for home, drams in zip(makers, parts):
            puts[home] += drams
            shares.append((piece, home, drams))
        rows.append((piece, about(chance, sum(parts)), makers))
    got, gives = [], []
    for home in names:
        drams = puts[home] + chance.choice([0, 0, chance.randint(0, most)])
        got.append((home, drams))
        one = chance.choice([drams, chance.randint(0, drams)])
        for part in [one, drams - one][:1 if one == drams else 2]:
            gives.append((home, about(chance, part), chance.choice([0, drams - puts[home], chance.randint(0, most)])))
    return chance.sample(gives, len(gives)), rows, (tuple(got), tuple(shares))


def about(chance, drams):
    slack = chance.choice([0, 0, 1, chance.randint(0, GREAT // 100)])
    return Span(drams).widened(slack)


def parts(sheet):
    return [(piece, home) for piece in sheet.pieces() for home in sheet.makers(piece)]


def sums(many, span):
    """All lists of so many whole numbers from 0 on that come to a number of the span."""
    return [row for row in itertools.product(range(span.most + 1), repeat=many) if span.holds(sum(row))]


def all_shares(sheet):
    """All dicts from (piece, home) to shares that fit the pieces, no home putting in more than it can have got."""
    keys = parts(sheet)
    pieces = [sums(len(sheet.makers(piece)), sheet.yarn(piece)) for piece in sheet.pieces()]
    found = []
    for rows in itertools.product(*pieces):
        shares = dict(zip(keys, itertools.chain(*rows)))
        if all(put_in(shares, home) <= sheet.got(home).most for home in sheet.homes()):
            found.append(shares)
    return found


def put_in(shares, home):
    return sum(drams for (_, maker), drams in shares.items() if maker == home)


def lacks_with(sheet, shares, home):
    """All that the home can lack where the shares are these."""
    put = put_in(shares, home)
    return [got - put for got in range(sheet.got(home).least, sheet.got(home).most + 1) if got >= put]


def some_tale_is_fair(sheet, fair, found):
    """Whether in some tale of these shares each of the fair homes lacks no more than its waste."""
    return any(all(min(lacks_with(sheet, shares, home)) <= sheet.waste(home) for home in fair) for shares in found)


def subsets(things):
    return itertools.chain(*[itertools.combinations(things, many) for many in range(len(things) + 1)])


def all_papers(sheet, fair):
    shorts = [("short", names) for names in subsets(sorted(sheet.pieces()))]
    return shorts + [("over", names) for names in subsets(sorted(set(fair)))]

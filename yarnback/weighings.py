"""Where to weigh once more: the cheapest things that show all, and what weighings show."""

from yarnback.errors import Crossed, Unsure
from yarnback.rings import OUTSIDE, are_ring, closing_rings, counts_of, ends_of, is_in_ring, ring_with, ways_outside
from yarnback.sheets import parts_of


def things_of(sheet):
    """All things that can be weighed: lacks of homes, then parts of makers in pieces."""
    homes = [("home", home) for home in sheet.homes()]
    return homes + [("part", piece, home) for piece, home in parts_of(sheet)]


def chosen_of(things, chosen):
    """Those of the things that are chosen, each once, as the things stand."""
    marked = {thing: True for thing in chosen}
    return [thing for thing in things if thing in marked]


def others_of(things, chosen):
    """Those of the things that aren't chosen, as they stand."""
    marked = {thing: True for thing in chosen}
    return [thing for thing in things if thing not in marked]


def do_show(sheet, things):
    """Whether weighing these things shows all lacks and shares."""
    return closing_rings(others_of(things_of(sheet), things)) == []


def cheapest(sheet, price=None):
    """(cost, things, paper): the cheapest things that show all, and a paper that shows that none cheaper do."""
    things = things_of(sheet)
    prices = prices_of(things, price)
    # What is left unweighed may close no ring: the dearest are left first, and those that then close one are told.
    dearest = sorted([(-prices[thing], at) for at, thing in enumerate(things)])
    told = chosen_of(things, closing_rings([things[at] for _, at in dearest]))
    cost = sum([prices[thing] for thing in told])
    return (cost, told, paper_of(told, things))


def prices_of(things, price):
    """The price of each thing, 1 where no price is told."""
    return {thing: 1 if price is None else price(thing) for thing in things}


def paper_of(told, things):
    """Of each thing told its ring: those that aren't told tie all to the outside, and each thing told closes one."""
    ways = ways_outside(others_of(things, told))
    return [(thing, tuple(chosen_of(things, ring_with(thing, ways)))) for thing in told]


def lets_by(sheet, things, paper, price=None):
    """Whether the things show all, and the paper shows that none cheaper do."""
    if not do_show(sheet, things) or sorted([thing for thing, _ in paper]) != sorted(set(things)):
        return False
    prices = prices_of(things_of(sheet), price)
    return all([is_let(thing, list(ring), things, prices) for thing, ring in paper])


def is_let(thing, ring, things, prices):
    """Whether thing and ring are a ring together, none of the others twice, told or cheaper."""
    if len(set(ring)) != len(ring) or others_of(ring, things) != ring:
        return False
    cheaper = [other for other in ring if prices[other] < prices[thing]]
    return cheaper == [] and are_ring([thing] + ring)


def worked_out(sheet, got, yarn, shown):
    """The number of each lack and share, by the numbers shown and by the ties."""
    things = things_of(sheet)
    hidden = others_of(things, shown)
    if closing_rings(hidden) != []:
        unsure = [thing for thing in hidden if is_in_ring(thing, hidden)]
        raise Unsure(unsure[0])
    left = {("home", home): got[home] for home in sheet.homes()}
    for piece in sheet.pieces():
        left[("piece", piece)] = yarn[piece]
    numbers = {}
    for thing in chosen_of(things, shown):
        set_down(numbers, left, thing, shown[thing])
    tie_down(numbers, left, hidden)
    # A tie that doesn't come out has something left, or too little.
    if [end for end in left if left[end] != 0] or [thing for thing in things if numbers[thing] < 0]:
        raise Crossed("no numbers from 0 on are so")
    return {thing: numbers[thing] for thing in things}


def set_down(numbers, left, thing, many):
    """Notes what the thing comes to: so much less is left at its ends."""
    numbers[thing] = many
    for end in ends_of(thing):
        if end != OUTSIDE:
            left[end] -= many


def tie_down(numbers, left, hidden):
    """Notes the hidden things, which close no ring, each by what is left at an end where it is the only one."""
    waiting = hidden
    while len(waiting) > 0:
        thing, end = single_at(waiting)
        set_down(numbers, left, thing, left[end])
        waiting = others_of(waiting, [thing])


def single_at(waiting):
    """One of the things, which close no ring, that is the only one at an end, and this end; there always is one."""
    counts = counts_of(waiting)
    single = [(thing, end) for thing in waiting for end in ends_of(thing) if end != OUTSIDE and counts[end] == 1]
    return single[0]

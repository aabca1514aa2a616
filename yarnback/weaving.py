"""Who wove which ell."""

from yarnback.errors import Beyond


def maker_at(weaving, ell):
    """The home that wove this ell of a piece."""
    left = ell
    for home, ells in weaving:
        if 0 <= left < ells:
            return home
        left = left - ells
    raise Beyond(ell, sum([ells for _, ells in weaving]))


def blame_of(weavings, bolt, ells):
    """How many of these places of the bolt each home wove."""
    # All places are looked for ahead of all makers: a place beyond the bolt is refused first.
    spots = [bolt.spot(ell) for ell in ells]
    blame = {}
    for piece, ell in spots:
        home = maker_at(weavings[piece], ell)
        blame[home] = blame.get(home, 0) + 1
    return blame

"""Yarn as it flows: from outside to homes, from these into pieces, and out again with the cloth."""

from yarnback.nets import Net, least_at, most_at, settle
from yarnback.spans import Span

OUTSIDE = 0


class Flow:
    """What homes put into the pieces of a sheet, where each home's shares together are in a span that is told."""

    def __init__(self, sheet, puts):
        homes = sheet.homes()
        pieces = sheet.pieces()
        self.home_nodes = {home: 1 + at for at, home in enumerate(homes)}
        self.piece_nodes = {piece: 1 + len(homes) + at for at, piece in enumerate(pieces)}
        self.net = Net(1 + len(homes) + len(pieces))
        self.wanting = sorted([piece for piece in pieces if sheet.yarn(piece).least > 0])
        self.put_arcs = {}
        self.share_arcs = {}
        for home, node in self.home_nodes.items():
            self.put_arcs[home] = self.net.add_arc(OUTSIDE, node, puts[home])
        for piece, node in self.piece_nodes.items():
            self._add_piece(piece, node, sheet)

    def _add_piece(self, piece, node, sheet):
        yarn = sheet.yarn(piece)
        self.net.add_arc(node, OUTSIDE, yarn)
        for home in sheet.makers(piece):
            # One more than ever comes: a share is bound by its home and its piece alone.
            bound = Span(0, yarn.most + 1)
            self.share_arcs[(piece, home)] = self.net.add_arc(self.home_nodes[home], node, bound)

    def run(self):
        """Lets the yarn flow so; where it can't, a paper that shows this is told, else None."""
        nodes = settle(self.net)
        if nodes is None:
            return None
        if OUTSIDE in nodes:
            # The other nodes want more than may come into them: pieces, with all their makers.
            return ("short", tuple([piece for piece in self.wanting if self.piece_nodes[piece] not in nodes]))
        # More must come into these than may go out of them: homes, with all their pieces. Each of these homes has
        # to put something in: what one that hasn't puts in could be less, and so outside would be reached, too.
        return ("over", tuple([home for home, node in self.home_nodes.items() if node in nodes]))

    def put(self, home):
        """What the home puts into all its pieces."""
        return self.net.carried[self.put_arcs[home]]

    def share(self, piece, home):
        """What the home puts into this piece."""
        return self.net.carried[self.share_arcs[(piece, home)]]

    def least_put(self, home):
        """The least that the home can put into its pieces."""
        return least_at(self.net, self.put_arcs[home])

    def most_put(self, home):
        """The most that the home can put into its pieces."""
        return most_at(self.net, self.put_arcs[home])

    def least_share(self, piece, home):
        """The least that the home can put into this piece."""
        return least_at(self.net, self.share_arcs[(piece, home)])

    def most_share(self, piece, home):
        """The most that the home can put into this piece."""
        return most_at(self.net, self.share_arcs[(piece, home)])

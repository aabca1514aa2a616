"""Nets: nodes, and arcs between them that carry something round."""


class Net:
    """Nodes by numbers from 0 on, and arcs with a span of what each may carry.

    What arcs carry into a node is always what they carry out of it. At first nothing is carried at all, which
    may be less than the least of some arcs; no arc ever gets further below its least or above its most.
    """

    def __init__(self, nodes):
        self.tails = []
        self.heads = []
        self.bounds = []
        self.carried = []
        self.arcs_at = [[] for _ in range(nodes)]

    def add_arc(self, tail, head, bound):
        """Adds an arc from the one node to the other; tells its number."""
        arc = len(self.tails)
        self.tails.append(tail)
        self.heads.append(head)
        self.bounds.append(bound)
        self.carried.append(0)
        self.arcs_at[tail].append(arc)
        self.arcs_at[head].append(arc)
        return arc

    def far_end(self, arc, node):
        """The node at the other end of the arc."""
        return self.heads[arc] if self.tails[arc] == node else self.tails[arc]

    def room(self, arc, node):
        """How much more can go over the arc from this node on; against the arc it is less carried."""
        if self.tails[arc] == node:
            return self.bounds[arc].most - self.carried[arc]
        return self.carried[arc] - self.bounds[arc].least

    def carry(self, arc, node, many):
        """Carries so much more over the arc from this node on."""
        self.carried[arc] += many if self.tails[arc] == node else -many


def ways_from(net, start, barred, end=None):
    """Of each node to which more can go from the start, not over the barred arc: the last arc of a shortest way.

    The start itself has None. Nodes that are further off than the end, where one is told, may be left out.
    """
    ways = {start: None}
    front = [start]
    while front and end not in ways:
        later = []
        for node in front:
            for arc in net.arcs_at[node]:
                far = net.far_end(arc, node)
                if far not in ways and arc != barred and net.room(arc, node) > 0:
                    ways[far] = arc
                    later.append(far)
        front = later
    return ways


def way_to(net, ways, end):
    """The arcs of the way to this node, each with the node from which it is gone, the last one first."""
    way = []
    node = end
    while ways[node] is not None:
        arc = ways[node]
        node = net.far_end(arc, node)
        way.append((arc, node))
    return way


def turn_round(net, arc, node, most):
    """Carries more over the arc from this node on, and round to it another way: as much as can be, at most so much.

    Tells how much it was. The ways are shortest ones, which keeps them few however great the numbers are.
    """
    far = net.far_end(arc, node)
    left = most
    while left > 0:
        ways = ways_from(net, far, arc, node)
        if node not in ways:
            break
        way = way_to(net, ways, node)
        many = min(left, min([net.room(step, at) for step, at in way]))
        for step, at in [(arc, node)] + way:
            net.carry(step, at, many)
        left -= many
    return most - left


def settle(net):
    """Brings all arcs to their least. Where this can't be, tells nodes that show so, else None.

    All arcs out of these nodes then carry their most, those into them no more than their least, one of them less:
    the leasts into these nodes come to more than the mosts out of them.
    """
    for arc, bound in enumerate(net.bounds):
        want = bound.least - net.carried[arc]
        if want > 0 and turn_round(net, arc, net.tails[arc], want) < want:
            return sorted(ways_from(net, net.heads[arc], arc))
    return None


def most_at(net, arc):
    """The most that the arc can carry; the net is a settled one, and then carries so."""
    tail = net.tails[arc]
    turn_round(net, arc, tail, net.room(arc, tail))
    return net.carried[arc]


def least_at(net, arc):
    """The least that the arc can carry; the net is a settled one, and then carries so."""
    head = net.heads[arc]
    turn_round(net, arc, head, net.room(arc, head))
    return net.carried[arc]

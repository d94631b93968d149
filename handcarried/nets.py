"""Nets: the ways from nodes to some ends, and the least that they tell.

A net is a dict that has for each node a list of its steps (told, to): a tuple of prices and texts, and the node that
they lead to. Along a way prices are added up, and texts are put one behind the other. A node that has no steps may
be left out. All nodes of one net can be compared with one another.
"""

from heapq import heappop, heappush


def grown_net(point, starts, stops):
    """The net of what is reached from some nodes, the nearest first, no further than up to the first of the stops.

    The point tells by moves(node) the steps of a node.
    """
    seen = {node: True for node in starts}
    found = list(seen)
    net = {}
    done = 0
    while done < len(found) and found[done] not in stops:
        node = found[done]
        done += 1
        net[node] = point.moves(node)
        for _, to in net[node]:
            if to not in seen:
                seen[to] = True
                found.append(to)
    return net


def priced_net(point, start, most):
    """The net of what is reached from a node for at most a price; the price is the first thing that a step tells."""
    net = {}
    queue = [(0, start)]
    while queue:
        spent, node = heappop(queue)
        if node not in net:
            net[node] = [step for step in point.moves(node) if spent + step[0][0] <= most]
            for told, to in net[node]:
                if to not in net:
                    heappush(queue, (spent + told[0], to))
    return net


def size_of(worth):
    """The size of what a step tells: the price itself, or how many signs the text has."""
    return len(worth) if isinstance(worth, str) else worth


def sizes_to(net, ends, which):
    """For each node from which a way leads to an end the least size of what such a way tells at this place."""
    arriving = {}
    for node, steps in net.items():
        for told, to in steps:
            arriving.setdefault(to, []).append((size_of(told[which]), node))
    sizes = {end: 0 for end in ends}
    queue = sorted([(0, end) for end in ends])
    while queue:
        size, node = heappop(queue)
        if size == sizes[node]:
            for more, ahead in arriving.get(node, []):
                if ahead not in sizes or size + more < sizes[ahead]:
                    sizes[ahead] = size + more
                    heappush(queue, (size + more, ahead))
    return sizes


def tight_steps(net, sizes, which, node):
    """The steps of a node on ways to the ends that tell no more than they must."""
    return [(told, to) for told, to in net.get(node, [])
            if to in sizes and size_of(told[which]) + sizes[to] == sizes[node]]


def tight_net(net, ends, which):
    """The net of the ways to the ends that tell no more than they must, from each node."""
    sizes = sizes_to(net, ends, which)
    return {node: tight_steps(net, sizes, which, node) for node in sizes}


class Texts:
    """The texts that the ways of a net to its ends tell at one place of what steps tell."""

    def __init__(self, net, ends, which):
        self.net = net
        self.which = which
        self.sizes = sizes_to(net, ends, which)

    def least_from(self, start):
        """The least text, in order, of all ways from a node, and the net of the ways that tell it; there is a way."""
        text = []
        rests = []
        layers = [self.opened([start])]
        while len(text) < self.sizes[start]:
            rests = [*rests, *self.begun_texts(layers[-1])]
            text.append(min([rest[0] for rest, _ in rests]))
            rests = sorted({(rest[1:], to) for rest, to in rests if rest[0] == text[-1]})
            layers.append(self.opened([to for rest, to in rests if rest == ""]))
            rests = [(rest, to) for rest, to in rests if rest != ""]
        told = "".join(text)
        return told, {node: self.telling(told, self.sizes[start] - self.sizes[node], steps)
                      for layer in layers for node, steps in layer.items()}

    def opened(self, nodes):
        """The tight steps of some nodes, and of those behind them to which steps lead that tell nothing."""
        found = list(nodes)
        steps = {}
        while found:
            node = found.pop()
            # A node is reached when just as much has been told as must be: but once on the whole way.
            if node not in steps:
                steps[node] = tight_steps(self.net, self.sizes, self.which, node)
                found.extend([to for told, to in steps[node] if told[self.which] == ""])
        return steps

    def begun_texts(self, layer):
        """The texts, none of them empty, that begin at the nodes of a layer, with the nodes behind them."""
        return [(told[self.which], to) for steps in layer.values() for told, to in steps if told[self.which] != ""]

    def telling(self, text, place, steps):
        """Those of some steps that tell what stands at a place of a text."""
        return [(told, to) for told, to in steps if text.startswith(told[self.which], place)]

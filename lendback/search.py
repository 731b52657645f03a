"""Search: a shortest list of nodes that leads to a wanted one."""


def shortest(start, following, wanted):
    """A shortest list of nodes from one in `start` to a wanted one, each followed by one that follows it.

    `following` gives the list of the nodes that follow a node, and `wanted` tells whether a node
    is wanted. None, if there is no such list.
    """
    # For each node that was reached, the node before it; nothing for those of the start.
    origins = {node: () for node in start}
    reached = list(origins)
    at = 0
    while at < len(reached):
        node = reached[at]
        if wanted(node):
            return way_to(node, origins)
        for other in following(node):
            if other not in origins:
                origins[other] = (node,)
                reached.append(other)
        at += 1
    return None


def way_to(node, origins):
    """The list of the nodes through which a node was reached, with this node at its end."""
    way = [node]
    while origins[way[-1]]:
        way.append(origins[way[-1]][0])
    return way[::-1]

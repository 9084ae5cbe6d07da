"""Walks from node to node: what can be reached, and by which steps."""


def walked(start, followers):
    """Each node that can be reached, with the node ahead of it and the step from there; the start has None.

    The nodes stand in the order in which they are first reached: by the length of the shortest row of steps that
    leads there, and by these rows where the lengths are equal.
    """
    came = {start: None}
    level = [start]
    while level:
        later = []
        for node in level:
            for step, after in enumerate(followers(node)):
                if after not in came:
                    came[after] = (node, step)
                    later.append(after)
        level = later
    return came


def steps_to(came, node):
    """The first of the shortest rows of steps that lead to a node, in what walked has told."""
    steps = []
    way = came[node]
    while way is not None:
        steps.append(way[1])
        way = came[way[0]]
    steps.reverse()
    return tuple(steps)

"""By which way a fall comes to a post."""

from tilefall.falls import falls_of


def way_to(net, pushes, post, takings=None):
    fallen = falls_of(net, pushes, takings)
    if post not in fallen:
        return None
    runs = []
    begin = post
    while fallen[begin][1] is not None:
        runs.append(fallen[begin][1])
        begin = fallen[begin][2]
    return (begin, list(reversed(runs)))

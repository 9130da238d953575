"""Posts' names, the runs of tiles between posts, and nets of runs."""

from tilefall.errors import NoNet
from tilefall.shares import is_fraction, is_less

LETTERS = "abcdefghijklmnopqrstuvwxyz"
MOST_LETTERS = 8
MOST_PARTS = 4
MOST_RUNS = 120


def is_part(text):
    return 1 <= len(text) <= MOST_LETTERS and all([sign in LETTERS for sign in text])


def is_post(thing):
    if not isinstance(thing, str):
        return False
    parts = thing.split(".")
    return len(parts) <= MOST_PARTS and all([is_part(part) for part in parts])


def is_run(thing):
    if not isinstance(thing, tuple) or len(thing) != 3:
        return False
    if not is_post(thing[0]) or not is_post(thing[1]) or thing[0] == thing[1]:
        return False
    return is_fraction(thing[2]) and is_less((0, 1), thing[2])


def net_of(runs):
    if not isinstance(runs, list) or not 1 <= len(runs) <= MOST_RUNS:
        raise NoNet(f"a net is a list of 1 to {MOST_RUNS} runs")
    for number, run in enumerate(runs):
        if not is_run(run):
            raise NoNet(f"number {number} of the list is no run")
    return list(runs)


def posts_of(net):
    return sorted(set([run[0] for run in net] + [run[1] for run in net]))


# A dict from each post to its runs, as tuples of a run's number and the post at its other end.
def runs_beside(net):
    beside = {}
    for number, run in enumerate(net):
        beside.setdefault(run[0], []).append((number, run[1]))
        beside.setdefault(run[1], []).append((number, run[0]))
    return beside

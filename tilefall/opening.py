"""Rows opened to the net that they tell."""

from tilefall.errors import TooMany
from tilefall.nets import MOST_RUNS, net_of


# How many runs a row has; counts is a dict from the pieces told ahead to how many runs each has.
def count_in(row, counts):
    if row[0] == "run":
        return 1
    if row[0] == "put":
        return counts[row[1]]
    return len(row[2]) if row[0] == "ring" else len(row[2]) - 1


def counted(rows):
    count = 0
    counts = {}
    for row in rows:
        if row[0] == "piece":
            counts[row[1]] = sum([count_in(inner, counts) for inner in row[3]])
        else:
            count += count_in(row, counts)
    return count


def runs_along(time, posts):
    return [(post, posts[place + 1], time) for place, post in enumerate(posts[:-1])]


def name_put(post, names, called):
    return names.get(post, f"{called}.{post}")


def runs_put(row, pieces):
    piece = pieces[row[1]]
    names = dict(zip(piece[2], row[3]))
    runs = []
    for inner in piece[3]:
        for one, other, time in runs_of(inner, pieces):
            runs.append((name_put(one, names, row[2]), name_put(other, names, row[2]), time))
    return runs


def runs_of(row, pieces):
    if row[0] == "run":
        return [(row[1], row[2], row[3])]
    if row[0] == "put":
        return runs_put(row, pieces)
    if row[0] == "star":
        return [(row[2][0], post, row[1]) for post in row[2][1:]]
    return runs_along(row[1], row[2] + row[2][:1] if row[0] == "ring" else row[2])


def opened(rows):
    # Counted ahead, as pieces in pieces may come to more runs than could ever be opened.
    if counted(rows) > MOST_RUNS:
        raise TooMany(f"a net has at most {MOST_RUNS} runs")
    pieces = {}
    runs = []
    for row in rows:
        if row[0] == "piece":
            pieces[row[1]] = row
        else:
            runs.extend(runs_of(row, pieces))
    return net_of(runs)

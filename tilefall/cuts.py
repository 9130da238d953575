"""Which runs keep a bell still when they are out, and ways to it that share no run."""

from tilefall.errors import NoBell
from tilefall.nets import runs_beside


def refuse_pushed(pushed, bell):
    if bell in pushed:
        raise NoBell("a bell whose post is pushed can't be kept still")


# A dict from the posts to which runs lead to tuples (number, post), by which run and from which post, None of a pushed
# one. In barred is (number, post) where the run may not be gone along from that post.
def led_from(net, pushed, barred):
    beside = runs_beside(net)
    reached = dict([(post, None) for post in pushed])
    queue = list(pushed)
    place = 0
    while place < len(queue):
        post = queue[place]
        place += 1
        for number, other in beside.get(post, []):
            if other not in reached and (number, post) not in barred:
                reached[other] = (number, post)
                queue.append(other)
    return reached


def kept_still(net, pushed, bell, runs):
    refuse_pushed(pushed, bell)
    barred = {}
    for number, run in enumerate(net):
        if number in runs:
            barred[(number, run[0])] = True
            barred[(number, run[1])] = True
    return bell not in led_from(net, pushed, barred)


# A run that is used already is gone along the other way about alone: two ways then swap what lies behind it, and
# neither uses it any more.
def add_way(used, reached, bell):
    post = bell
    while reached[post] is not None:
        number = reached[post][0]
        ahead = reached[post][1]
        if (number, post) in used:
            used.pop((number, post))
        else:
            used[(number, ahead)] = True
        post = ahead


# Two dicts: the runs that as many ways as can be use, as (number, post from which it is gone along), and the posts to
# which more ways would still lead.
def most_ways(net, pushed, bell):
    used = {}
    reached = led_from(net, pushed, used)
    while bell in reached:
        add_way(used, reached, bell)
        reached = led_from(net, pushed, used)
    return (used, reached)


def runs_into(net, used):
    into = {}
    for number, post in used:
        run = net[number]
        into.setdefault(run[1] if run[0] == post else run[0], []).append((number, post))
    return into


def ways_by(net, pushed, bell, used):
    into = runs_into(net, used)
    lasts = into.get(bell, [])
    ways = []
    for step in lasts:
        way = [step[0]]
        post = step[1]
        # Gone back, each way comes to a pushed post: to any other one as many used runs lead as from it.
        while post not in pushed:
            ahead = into[post].pop()
            way.append(ahead[0])
            post = ahead[1]
        ways.append(list(reversed(way)))
    return ways


def least_cut(net, pushed, bell):
    refuse_pushed(pushed, bell)
    found = most_ways(net, pushed, bell)
    reached = found[1]
    cut = [number for number, run in enumerate(net) if (run[0] in reached) != (run[1] in reached)]
    return (cut, ways_by(net, pushed, bell, found[0]))

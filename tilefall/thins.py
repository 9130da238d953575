"""How far posts are from each other, needless runs, and nets that play alike."""

from tilefall.falls import fall_moments
from tilefall.nets import posts_of
from tilefall.shares import is_less


# A fall goes the least way: it comes to each post as far behind the push as that post is away.
def fars_from(net, post):
    return fall_moments(net, [(post, (0, 1))])


def far_from(net, one, other):
    return fars_from(net, one).get(other)


def is_needless(others, run):
    far = far_from(others, run[0], run[1])
    return far is not None and not is_less(run[2], far)


def thinned(net):
    left = list(range(len(net)))
    for number in range(len(net) - 1, -1, -1):
        others = [kept for kept in left if kept != number]
        if is_needless([net[kept] for kept in others], net[number]):
            left = others
    return left


def apart_at(one, other):
    posts = posts_of(one + other)
    for post in posts:
        fars = fars_from(one, post)
        beyonds = fars_from(other, post)
        for end in posts:
            # Of a post from itself one net may know nothing.
            if end != post and fars.get(end) != beyonds.get(end):
                return (post, end, fars.get(end), beyonds.get(end))
    return None

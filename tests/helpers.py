"""What several tests share: nets by chance from a fixed seed, and a slow reckoning of falls by all ways there are."""

import random
import unittest
from fractions import Fraction

from tilefall import errors

NAMES = ("a", "b", "c", "d.e", "f", "g.h.i", "j")
TIMES = ((1, 1), (1, 2), (2, 1), (3, 2), (1, 3), (5, 1))
MOMENTS = ((0, 1), (1, 2), (1, 1), (4, 3), (2, 1), (3, 1))


def worth(told):
    return None if told is None else Fraction(told[0], told[1])


def told_of(value):
    return None if value is None else (value.numerator, value.denominator)


def chance_net(source, posts=5, runs=6, times=TIMES):
    names = NAMES[:source.randint(2, posts)]
    net = []
    for turn in range(source.randint(1, runs)):
        one, other = source.sample(names, 2)
        net.append((one, other, source.choice(times)))
    return net


def ends_of(net):
    return sorted(set(run[0] for run in net) | set(run[1] for run in net))


def chance_pushes(source, net, most=3):
    return [(source.choice(ends_of(net)), source.choice(MOMENTS)) for turn in range(source.randint(0, most))]


def chance_takings(source, net, most=4):
    moments = MOMENTS + ((5, 2), (7, 2), (5, 1), (6, 1))
    return [(source.randrange(len(net)), source.choice(moments)) for turn in range(source.randint(0, most))]


def chances(count, seed):
    source = random.Random(seed)
    for turn in range(count):
        net = chance_net(source)
        yield net, chance_pushes(source, net), chance_takings(source, net)


def end_beyond(run, post):
    return run[1] if run[0] == post else run[0]


def slow_moments(net, pushes, takings=None):
    """Goes every way that comes to no post twice, and keeps the least moment at which one comes to each post."""
    least = {post: None for post in ends_of(net)}

    def is_out(number, moment):
        return any(taken == number and worth(when) < moment for taken, when in takings or [])

    def go_on(post, moment, gone):
        if least[post] is None or moment < least[post]:
            least[post] = moment
        for number, run in enumerate(net):
            if post in run[:2]:
                other = end_beyond(run, post)
                come = moment + worth(run[2])
                if other not in gone and not is_out(number, come):
                    go_on(other, come, gone + [other])

    for post, moment in pushes:
        go_on(post, worth(moment), [post])
    return least


class Refuses(unittest.TestCase):
    def assert_refused(self, name, deed, *things):
        with self.assertRaises(errors.TileError) as taken:
            deed(*things)
        self.assertIs(type(taken.exception), getattr(errors, name))
        return taken.exception

"""Nets made for a show."""

from tilefall.boxes import made_of
from tilefall.errors import NoNet, TooMany
from tilefall.nets import LETTERS, MOST_RUNS
from tilefall.shares import lessened, sorted_by


def post_called(number):
    name = LETTERS[number % len(LETTERS)]
    while number >= len(LETTERS):
        number = number // len(LETTERS)
        name = LETTERS[number % len(LETTERS)] + name
    return name


def rising_moments(show):
    moments = sorted(set([show[bell] for bell in show]))
    return sorted_by(moments, moments)


def made_net(box, show, double=False):
    times = []
    ends = {}
    ahead = (0, 1)
    # A moment of (0, 1) comes first and is made of nothing: it ends at the first post.
    for moment in rising_moments(show):
        times.extend(made_of(box, lessened(moment, ahead)))
        ends[moment] = len(times)
        ahead = moment
    times_over = 2 if double else 1
    if len(times) * times_over > MOST_RUNS:
        raise TooMany(f"a net has at most {MOST_RUNS} runs")
    if not times:
        raise NoNet("a show without moments above 0 has no runs")
    net = []
    for number, time in enumerate(times):
        net.extend([(post_called(number), post_called(number + 1), time)] * times_over)
    hung = dict([(bell, post_called(ends[show[bell]])) for bell in show])
    return (net, hung)

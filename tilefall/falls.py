"""When each post falls, with pushes and takings."""

from tilefall.nets import posts_of, runs_beside
from tilefall.shares import added, is_less


# Pushes or takings: of several of one post or run the least moment counts.
def least_moments(deeds):
    least = {}
    for thing, moment in deeds:
        if thing not in least or is_less(moment, least[thing]):
            least[thing] = moment
    return least


def is_out(taken, number, moment):
    # A fall that comes to the end at the very moment of the taking has come.
    return number in taken and is_less(taken[number], moment)


def earliest_of(waiting):
    earliest = None
    for post in waiting:
        if earliest is None or is_less(waiting[post][0], waiting[earliest][0]):
            earliest = post
    return earliest


# A dict from the posts that fall to tuples (moment, number, post): by which run the fall came, and from which post;
# number and post are None where the post was pushed then.
def falls_of(net, pushes, takings=None):
    beside = runs_beside(net)
    taken = least_moments(takings or [])
    pushed = least_moments(pushes)
    waiting = dict([(post, (pushed[post], None, None)) for post in pushed])
    fallen = {}
    # Runs take time, so nothing that comes later makes the earliest post that waits fall sooner.
    while waiting:
        post = earliest_of(waiting)
        fallen[post] = waiting.pop(post)
        for number, other in beside.get(post, []):
            moment = added(fallen[post][0], net[number][2])
            if other in fallen or is_out(taken, number, moment):
                continue
            if other not in waiting or is_less(moment, waiting[other][0]):
                waiting[other] = (moment, number, post)
    return fallen


def fall_moments(net, pushes, takings=None):
    fallen = falls_of(net, pushes, takings)
    return dict([(post, fallen[post][0] if post in fallen else None) for post in posts_of(net)])

"""What stands in a run at a moment, and how a run ends."""

from tilefall.falls import fall_moments, least_moments
from tilefall.shares import added, divided, is_less, lessened, timed


def share_passed(fell, time, moment):
    if fell is None or is_less(moment, fell):
        return (0, 1)
    return divided(lessened(moment, fell), time)


# Apart from standing_in, so that who keeps the moments needn't reckon them anew for each run; taken may be None.
def standing_by(run, moments, taken, moment):
    if taken is not None and not is_less(moment, taken):
        return None
    first = share_passed(moments[run[0]], run[2], moment)
    last = lessened((1, 1), share_passed(moments[run[1]], run[2], moment))
    return (first, last) if is_less(first, last) else None


def standing_in(net, pushes, number, moment, takings=None):
    moments = fall_moments(net, pushes, takings)
    return standing_by(net[number], moments, least_moments(takings or []).get(number), moment)


def is_swept(fell, time, beyond):
    return fell is not None and (beyond is None or not is_less(beyond, added(fell, time)))


def ending_by_falls(run, moments):
    one = moments[run[0]]
    other = moments[run[1]]
    if one is None and other is None:
        return ("stands",)
    if is_swept(one, run[2], other):
        return ("swept", run[0], added(one, run[2]))
    if is_swept(other, run[2], one):
        return ("swept", run[1], added(other, run[2]))
    met = timed(added(added(one, other), run[2]), (1, 2))
    return ("met", met, divided(lessened(met, one), run[2]))


def moment_of(ending):
    if ending[0] == "stands":
        return None
    return ending[2] if ending[0] == "swept" else ending[1]


# As standing_by is of standing_in.
def ending_by(run, moments, taken):
    ending = ending_by_falls(run, moments)
    ended = moment_of(ending)
    # At the moment of the end itself no tile stands any more that could be taken out.
    if taken is not None and (ended is None or is_less(taken, ended)):
        return ("taken", taken)
    return ending


def ending_of(net, pushes, number, takings=None):
    moments = fall_moments(net, pushes, takings)
    return ending_by(net[number], moments, least_moments(takings or []).get(number))

"""Wishes of when bells ring, and the earliest moments that meet them, or a ring of wishes that nothing meets."""

from tilefall.errors import NoWish
from tilefall.nets import is_post
from tilefall.shares import added, is_fraction, is_less, is_moment


def is_pair(one, other):
    return is_post(one) and is_post(other) and one != other


def is_wish(thing):
    if not isinstance(thing, tuple) or len(thing) not in (3, 4) or not isinstance(thing[0], str):
        return False
    if len(thing) == 4:
        return thing[0] in ("after", "within") and is_pair(thing[1], thing[2]) and is_fraction(thing[3])
    if thing[0] == "from":
        return is_post(thing[1]) and is_moment(thing[2])
    return thing[0] == "with" and is_pair(thing[1], thing[2])


def refuse_no_wishes(wishes):
    if not isinstance(wishes, list):
        raise NoWish(None)
    for number, thing in enumerate(wishes):
        if not is_wish(thing):
            raise NoWish(number)


def steps_by(number, wish):
    if wish[0] == "after":
        return [(wish[1], wish[2], wish[3], number)]
    if wish[0] == "within":
        return [(wish[2], wish[1], (-wish[3][0], wish[3][1]), number)]
    if wish[0] == "with":
        return [(wish[1], wish[2], (0, 1), number), (wish[2], wish[1], (0, 1), number)]
    return []


def steps_of(wishes):
    refuse_no_wishes(wishes)
    steps = []
    for number, wish in enumerate(wishes):
        steps.extend(steps_by(number, wish))
    return steps


# The least moments of all bells, as far as no step puts them off.
def first_moments(wishes):
    moments = {}
    for wish in wishes:
        bells = [wish[1]] if wish[0] == "from" else [wish[1], wish[2]]
        for bell in bells:
            moments.setdefault(bell, (0, 1))
        if wish[0] == "from" and is_less(moments[wish[1]], wish[2]):
            moments[wish[1]] = wish[2]
    return moments


# Puts off each bell that rings too early for a step, which causes keeps; tells one that was put off, or None.
def put_off(steps, moments, causes):
    late = None
    for step in steps:
        moment = added(moments[step[0]], step[2])
        if is_less(moments[step[1]], moment):
            moments[step[1]] = moment
            causes[step[1]] = step
            late = step[1]
    return late


def ring_behind(bell, causes):
    # As many steps back as there are bells put off lead into the ring, wherever ahead of it they began.
    for turn in range(len(causes)):
        bell = causes[bell][0]
    ring = [causes[bell]]
    while ring[-1][0] != bell:
        ring.append(causes[ring[-1][0]])
    return list(reversed(ring))


def played_at(wishes):
    steps = steps_of(wishes)
    moments = first_moments(wishes)
    causes = {}
    late = put_off(steps, moments, causes)
    turns = 1
    # Steps that go through no bell twice have put off all they can by one turn less than there are bells.
    while late is not None and turns < len(moments):
        late = put_off(steps, moments, causes)
        turns += 1
    if late is None:
        return ("moments", moments)
    return ("ring", ring_behind(late, causes))

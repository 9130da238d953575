"""Times made of the times of a box."""

from tilefall.errors import NoSum
from tilefall.shares import common_divisor, sorted_by, whole_tops


# The times as whole numbers of the greatest unit of which they are all made, so that the way to the last is short.
def units_of(times):
    tops = whole_tops(times)
    unit = 0
    for top in tops:
        unit = common_divisor(unit, top)
    return [top // unit for top in tops]


# For each whole number up to the last, how many parts come to it at the fewest, None where none do.
def fewest_parts(parts, last):
    fewest = [0]
    for whole in range(1, last + 1):
        counts = [fewest[whole - part] for part in parts if part <= whole and fewest[whole - part] is not None]
        fewest.append(min(counts) + 1 if counts else None)
    return fewest


# The greatest part with which the fewest begin: whatever comes behind it is no greater.
def first_part(parts, fewest, left):
    for place, part in enumerate(parts):
        if part <= left and fewest[left - part] == fewest[left] - 1:
            return place
    return None


def made_of(box, time):
    falling = list(reversed(sorted_by(box, box)))
    parts = units_of(falling + [time])
    left = parts.pop()
    fewest = fewest_parts(parts, left)
    if fewest[left] is None:
        raise NoSum("no times of the box come to this time")
    made = []
    while left > 0:
        place = first_part(parts, fewest, left)
        made.append(falling[place])
        left -= parts[place]
    return made

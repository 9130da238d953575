"""A hall: a net whose posts are pushed and whose runs are taken out as time goes on."""

from tilefall.errors import Fallen, Gone, NoNumber, NoPost, NoRun
from tilefall.falls import fall_moments, least_moments
from tilefall.shares import added, is_less, is_moment, is_whole, sorted_by
from tilefall.tiles import ending_by, standing_by


class Hall:
    def __init__(self, net):
        self.net = list(net)
        self.pushes = []
        self.takings = []
        self.moment = (0, 1)
        self.moments = fall_moments(self.net, [])

    # What is yet to come hangs on all deeds up to now, what has been is as it was.
    def reckon(self):
        self.moments = fall_moments(self.net, self.pushes, self.takings)

    def has_come(self, moment):
        return moment is not None and not is_less(self.moment, moment)

    def refuse_no_post(self, post):
        if not isinstance(post, str) or post not in self.moments:
            raise NoPost("there is no such post in the net")

    def push(self, post):
        self.refuse_no_post(post)
        if self.has_come(self.moments[post]):
            raise Fallen("the post has fallen")
        self.pushes.append((post, self.moment))
        self.reckon()

    def take(self, number):
        if self.tiles(number) is None:
            raise Gone("no tile of the run stands")
        self.takings.append((number, self.moment))
        self.reckon()

    def go(self, time):
        if not is_moment(time):
            raise NoNumber("time goes on by a fraction from (0, 1) on")
        before = self.moment
        self.moment = added(before, time)
        told = self.falls_told() + self.endings_told()
        fresh = [each for each in told if is_less(before, each[1]) and self.has_come(each[1])]
        # Sorted by moments alone: of one moment falls stay ahead, by posts, and runs behind, by numbers.
        return sorted_by([each[1] for each in fresh], fresh)

    def falls_told(self):
        return [("falls", self.moments[post], post) for post in sorted(self.moments) if self.moments[post] is not None]

    def endings_told(self):
        taken = least_moments(self.takings)
        told = []
        for number, run in enumerate(self.net):
            ending = ending_by(run, self.moments, taken.get(number))
            if ending[0] == "met":
                told.append(("met", ending[1], number, ending[2]))
            elif ending[0] == "swept":
                told.append(("swept", ending[2], number))
        return told

    def now(self):
        return self.moment

    def fallen(self):
        return dict([(post, moment) for post, moment in self.moments.items() if self.has_come(moment)])

    def tiles(self, number):
        if not is_whole(number) or not 0 <= number < len(self.net):
            raise NoRun("there is no run of this number in the net")
        taken = least_moments(self.takings).get(number)
        return standing_by(self.net[number], self.moments, taken, self.moment)

"""The promise over the whole program [3], [2]: what one stage tells holds in the others."""

import copy
import random
import unittest

from helpers import chance_net, chances, ends_of, told_of, worth
from tilefall.cuts import least_cut
from tilefall.desk import Desk
from tilefall.falls import fall_moments
from tilefall.hall import Hall
from tilefall.makes import made_net
from tilefall.opening import opened
from tilefall.rows import read_rows, shown_rows
from tilefall.thins import apart_at, thinned
from tilefall.tiles import ending_of, standing_in
from tilefall.ways import way_to
from tilefall.wishes import played_at, steps_of

WISHES = [
    ("after", "horn", "drum", (3, 2)), ("within", "horn", "drum", (2, 1)), ("with", "drum", "bell.low"),
    ("from", "horn", (1, 1)), ("after", "drum", "gong", (1, 4)), ("within", "gong", "horn", (-2, 1)),
]
BOX = [(1, 4), (1, 1), (3, 2)]


def played_in(hall, time):
    """The posts that fall as time goes on, to their moments."""
    return {event[2]: event[1] for event in hall.go(time) if event[0] == "falls"}


class FromWishesToTheHall(unittest.TestCase):
    def setUp(self):
        kind, self.show = played_at(WISHES)
        self.assertEqual(kind, "moments")

    def test_a_made_net_plays_the_wishes(self):
        net, hung = made_net(BOX, self.show)
        hall = Hall(opened(read_rows(shown_rows([("run",) + run for run in net]))))
        hall.push("a")
        played = dict(played_in(hall, (50, 1)), a=(0, 1))
        self.assertEqual({bell: played[hung[bell]] for bell in hung}, self.show)

    def test_a_doubled_one_with_any_one_run_taken_out_at_any_moment(self):
        net, hung = made_net(BOX, self.show, True)
        for number in range(len(net)):
            for quarters in range(0, 16, 3):
                hall = Hall(net)
                hall.push("a")
                played = dict(played_in(hall, told_of(worth((quarters, 1)) / 4)), a=(0, 1))
                if hall.tiles(number) is not None:
                    hall.take(number)
                played.update(played_in(hall, (50, 1)))
                with self.subTest(number=number, quarters=quarters):
                    self.assertEqual({bell: played[hung[bell]] for bell in hung}, self.show)

    def test_at_the_desk(self):
        bells = ",".join(f"{bell}={worth(moment)}" for bell, moment in self.show.items())
        desk = Desk()
        text = desk.say("make 1/4,1,3/2 as " + bells)
        net, hung = made_net(BOX, self.show)
        self.assertEqual(opened(read_rows(text)), net)
        for row in ("net " + text, "push a"):
            self.assertEqual(desk.say(row), "ok")
        desk.say("go 50")
        for bell, moment in self.show.items():
            self.assertEqual(desk.say("fell " + hung[bell]), str(worth(moment)))


class CutsAndThinnedNetsInTheHall(unittest.TestCase):
    def test_a_cut_keeps_the_bell_still_and_fewer_do_not(self):
        source = random.Random(27)
        for turn in range(60):
            net = chance_net(source, posts=6, runs=9)
            posts = ends_of(net)
            pushed, bell = source.sample(posts, 2)
            cut = least_cut(net, [pushed], bell)[0]
            for spared in [None] + cut:
                hall = Hall(net)
                for number in cut:
                    if number != spared:
                        hall.take(number)
                hall.push(pushed)
                hall.go((1000, 1))
                with self.subTest(net=net, pushed=pushed, bell=bell, spared=spared):
                    self.assertEqual(bell in hall.fallen(), spared is not None)

    def test_a_thinned_net_plays_as_it_did_whichever_post_is_pushed(self):
        source = random.Random(28)
        for turn in range(60):
            net = chance_net(source, posts=6, runs=9)
            rest = [net[number] for number in thinned(net)]
            self.assertIsNone(apart_at(net, rest))
            for post in ends_of(net):
                halls = [Hall(net), Hall(rest)]
                for hall in halls:
                    hall.push(post)
                    hall.go((1000, 1))
                with self.subTest(net=net, post=post):
                    self.assertEqual(halls[0].fallen(), halls[1].fallen())

    def test_nets_are_told_apart_just_where_a_push_makes_a_difference(self):
        source = random.Random(29)
        for turn in range(100):
            one = chance_net(source, posts=4, runs=5)
            other = one[:-1] + [one[-1][:2] + ((source.choice((1, 9)), 1),)]
            unlike = [
                post for post in ends_of(one)
                if fall_moments(one, [(post, (0, 1))]) != fall_moments(other, [(post, (0, 1))])
            ]
            told = apart_at(one, other)
            with self.subTest(one=one, other=other):
                self.assertEqual(told and told[0], unlike[0] if unlike else None)


class NothingIsKept(unittest.TestCase):
    def ask_all(self, net, pushes, takings):
        post = ends_of(net)[0]
        return [
            fall_moments(net, pushes, takings), way_to(net, pushes, post, takings),
            standing_in(net, pushes, 0, (1, 1), takings), ending_of(net, pushes, 0, takings),
            least_cut(net, [post], "none"), thinned(net), apart_at(net, net), made_net(BOX, {"x": (5, 2)}),
            steps_of(WISHES), played_at(WISHES), read_rows("run a b 1"), opened(read_rows("run a b 1")),
        ]

    def spoil(self, thing):
        if isinstance(thing, (list, tuple)):
            for part in thing:
                self.spoil(part)
        if isinstance(thing, (list, dict)):
            thing.clear()

    def test_what_is_told_is_spoilt_and_asked_again(self):
        for net, pushes, takings in chances(20, 30):
            kept = copy.deepcopy((net, pushes, takings, WISHES, BOX))
            first = self.ask_all(net, pushes, takings)
            told = copy.deepcopy(first)
            self.spoil(first)
            with self.subTest(net=net, pushes=pushes, takings=takings):
                self.assertEqual(self.ask_all(net, pushes, takings), told)
                self.assertEqual((net, pushes, takings, WISHES, BOX), kept)


if __name__ == "__main__":
    unittest.main()

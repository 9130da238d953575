"""A desk that is told rows of words and answers each with a text."""

from tilefall.cuts import least_cut
from tilefall.errors import NoNet, NoRow, NoSum
from tilefall.figures import read_moment, read_run_number, read_time, shown_fraction
from tilefall.hall import Hall
from tilefall.makes import made_net
from tilefall.nets import is_post
from tilefall.opening import opened
from tilefall.rows import read_rows, shown_rows
from tilefall.thins import far_from, thinned

MOST_TIMES = 6
MOST_BELLS = 12
# What the words behind the first one are: the kinds that said_by_word reads.
WORDS = {
    "push": ("post",),
    "take": ("number",),
    "go": ("moment",),
    "now": (),
    "fell": ("post",),
    "tiles": ("number",),
    "cut": ("post", "post"),
    "far": ("post", "post"),
    "thin": (),
    "make": ("times", "as", "show"),
}


def times_said(word):
    times = [read_time(part) for part in word.split(",")]
    return times if len(times) <= MOST_TIMES and None not in times else None


def show_said(word):
    show = {}
    for pair in word.split(","):
        parts = pair.split("=")
        if len(parts) != 2 or not is_post(parts[0]) or parts[0] in show:
            return None
        show[parts[0]] = read_moment(parts[1])
    return show if len(show) <= MOST_BELLS and None not in list(show.values()) else None


# What a word says, None where it is not written as its kind must be.
def said_by_word(kind, word):
    if kind == "number":
        return read_run_number(word)
    if kind == "moment":
        return read_moment(word)
    if kind == "times":
        return times_said(word)
    if kind == "show":
        return show_said(word)
    right = is_post(word) if kind == "post" else word == kind
    return word if right else None


def said_by(words):
    kinds = WORDS.get(words[0])
    if kinds is None or len(words) != len(kinds) + 1:
        raise NoRow("there is no such row")
    said = [said_by_word(kind, word) for kind, word in zip(kinds, words[1:])]
    if None in said:
        raise NoRow("a word of the row is not written as it must be")
    return said


def shown_numbers(numbers):
    return " ".join([str(number) for number in numbers]) if numbers else "-"


def shown_event(event):
    words = [event[0], shown_fraction(event[1]), str(event[2])]
    if event[0] == "met":
        words.append(shown_fraction(event[3]))
    return " ".join(words)


def refuse_no_posts(hall, posts):
    for post in posts:
        hall.refuse_no_post(post)


# From here on each def answers a row, by the hall and what the row's words say.
def push_answered(hall, said):
    hall.push(said[0])
    return "ok"


def take_answered(hall, said):
    hall.take(said[0])
    return "ok"


def go_answered(hall, said):
    events = hall.go(said[0])
    return "; ".join([shown_event(event) for event in events]) if events else "-"


def now_answered(hall, said):
    return shown_fraction(hall.now())


def fell_answered(hall, said):
    refuse_no_posts(hall, said)
    moment = hall.fallen().get(said[0])
    return "stands" if moment is None else shown_fraction(moment)


def tiles_answered(hall, said):
    shares = hall.tiles(said[0])
    return "none" if shares is None else " ".join([shown_fraction(share) for share in shares])


def cut_answered(hall, said):
    refuse_no_posts(hall, said)
    return shown_numbers(least_cut(hall.net, [said[0]], said[1])[0])


def far_answered(hall, said):
    refuse_no_posts(hall, said)
    far = far_from(hall.net, said[0], said[1])
    return "none" if far is None else shown_fraction(far)


def thin_answered(hall, said):
    return shown_numbers(thinned(hall.net))


def made_text(times, show):
    if len(set(times)) < len(times):
        raise NoSum("the times of a box are unlike")
    net = made_net(times, show)[0]
    return shown_rows([("run", run[0], run[1], run[2]) for run in net])


ANSWERS = {
    "push": push_answered,
    "take": take_answered,
    "go": go_answered,
    "now": now_answered,
    "fell": fell_answered,
    "tiles": tiles_answered,
    "cut": cut_answered,
    "far": far_answered,
    "thin": thin_answered,
}


class Desk:
    def __init__(self):
        self.hall = None

    def say(self, row):
        if not isinstance(row, str):
            raise NoRow("a row is a text")
        if row.startswith("net "):
            self.hall = Hall(opened(read_rows(row[len("net "):])))
            return "ok"
        words = row.split(" ")
        said = said_by(words)
        if words[0] == "make":
            return made_text(said[0], said[2])
        if self.hall is None:
            raise NoNet("there is no net yet")
        answer = ANSWERS[words[0]]
        return answer(self.hall, said)

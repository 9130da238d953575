"""Numbers as they are written in texts."""

from tilefall.shares import is_fraction

FIGURES = "0123456789"
MOST_FIGURES = 12
MOST_RUN_FIGURES = 3


def is_written(word, most):
    return 1 <= len(word) <= most and all([sign in FIGURES for sign in word]) and word[0] != "0"


# The fraction above 0 that is written so, None where none is.
def read_time(word):
    parts = word.split("/")
    if len(parts) > 2 or not all([is_written(part, MOST_FIGURES) for part in parts]):
        return None
    if len(parts) == 1:
        return (int(word), 1)
    time = (int(parts[0]), int(parts[1]))
    return time if time[1] > 1 and is_fraction(time) else None


def read_moment(word):
    return (0, 1) if word == "0" else read_time(word)


def read_run_number(word):
    return int(word) if word == "0" or is_written(word, MOST_RUN_FIGURES) else None


def shown_whole(whole):
    # Sums may come to more figures than the some thousand that Python writes at once.
    beyond = 10 ** 64
    rest = abs(whole)
    shown = ""
    while rest >= beyond:
        shown = str(rest % beyond).zfill(64) + shown
        rest = rest // beyond
    shown = str(rest) + shown
    return shown if whole >= 0 else "-" + shown


def shown_fraction(each):
    top = shown_whole(each[0])
    if each[1] == 1:
        return top
    bottom = shown_whole(each[1])
    return f"{top}/{bottom}"

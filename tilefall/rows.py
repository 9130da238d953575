"""Texts of nets, read to rows and written from rows."""

from tilefall.errors import NoText
from tilefall.figures import read_time, shown_fraction
from tilefall.nets import is_part, is_post

MOST_ROWS = 60
MOST_PARAMS = 8
# How many posts each of these rows has at the fewest.
FEWEST_POSTS = {"row": 2, "star": 2, "ring": 3}


def refuse_unless(holds, words):
    if not holds:
        row = " ".join(words)
        raise NoText(f"no row of a net's text: {row}")


def posts_in(words, told):
    refuse_unless(all([is_post(word) for word in told]), words)
    return tuple(told)


def time_in(words, word):
    time = read_time(word)
    refuse_unless(time is not None, words)
    return time


def run_in(words):
    refuse_unless(len(words) == 4, words)
    posts = posts_in(words, words[1:3])
    return ("run", posts[0], posts[1], time_in(words, words[3]))


def posts_row_in(words):
    refuse_unless(len(words) >= 2 + FEWEST_POSTS[words[0]], words)
    return (words[0], time_in(words, words[1]), posts_in(words, words[2:]))


# Counts is a dict from the pieces that were ended ahead to how many params each has.
def put_in(words, counts):
    refuse_unless(len(words) >= 3 and words[1] in counts and is_part(words[2]), words)
    refuse_unless(len(words) - 3 == counts[words[1]], words)
    return ("put", words[1], words[2], posts_in(words, words[3:]))


def plain_row_in(words, counts):
    if words[0] == "run":
        return run_in(words)
    if words[0] in FEWEST_POSTS:
        return posts_row_in(words)
    refuse_unless(words[0] == "put", words)
    return put_in(words, counts)


def piece_in(lines, counts):
    words = lines[0]
    params = words[2:]
    refuse_unless(1 <= len(params) <= MOST_PARAMS and all([is_part(word) for word in words[1:]]), words)
    refuse_unless(len(set(params)) == len(params) and words[1] not in counts, words)
    refuse_unless(len(lines) > 1, words)
    return ("piece", words[1], tuple(params), tuple([plain_row_in(line, counts) for line in lines[1:]]))


def end_behind(lines, place):
    for later in range(place, len(lines)):
        if lines[later] == ["end"]:
            return later
    raise NoText("a piece has no end")


def lines_in(text):
    if not isinstance(text, str):
        raise NoText("what tells a net is a text")
    lines = [line.split(" ") for line in text.split(" ; ")]
    if len(lines) > MOST_ROWS:
        raise NoText(f"a net's text has at most {MOST_ROWS} rows")
    return lines


def read_rows(text):
    lines = lines_in(text)
    rows = []
    counts = {}
    place = 0
    while place < len(lines):
        if lines[place][0] == "piece":
            end = end_behind(lines, place)
            piece = piece_in(lines[place:end], counts)
            # Only behind its end may it be put.
            counts[piece[1]] = len(piece[2])
            rows.append(piece)
            place = end + 1
        else:
            rows.append(plain_row_in(lines[place], counts))
            place += 1
    return rows


def words_of(row):
    if row[0] == "run":
        return [row[0], row[1], row[2], shown_fraction(row[3])]
    if row[0] == "put":
        return [row[0], row[1], row[2]] + list(row[3])
    if row[0] == "piece":
        return [row[0], row[1]] + list(row[2])
    return [row[0], shown_fraction(row[1])] + list(row[2])


def shown_rows(rows):
    lines = []
    for row in rows:
        lines.append(" ".join(words_of(row)))
        if row[0] == "piece":
            lines.extend([" ".join(words_of(inner)) for inner in row[3]])
            lines.append("end")
    return " ; ".join(lines)

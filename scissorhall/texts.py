"""Texts of numbers, points, heaps and cuttings, written and read."""

from scissorhall.errors import NoText, TooGreat
from scissorhall.lowest import fraction
from scissorhall.moves import is_push, move
from scissorhall.points import measures, point_at
from scissorhall.simplexes import simplex

FIGURES = "0123456789"
MOST_FIGURES = 60
NOTHING = "none"
PUSH = "push"
TURN = "turn"


def shown_whole(number):
    # Asked ahead of writing, as Python refuses to write the very longest numbers.
    if abs(number) >= 10 ** 60:
        raise TooGreat("a number has more than sixty figures")
    return str(abs(number))


def shown_number(number):
    text = shown_whole(number[0])
    if number[0] < 0:
        text = "-" + text
    if number[1] == 1:
        return text
    return text + "/" + shown_whole(number[1])


def shown_point(p):
    return " ".join([shown_number(number) for number in measures(p)])


def shown_simplex(piece):
    return ", ".join([shown_point(p) for p in piece])


def shown_rows(texts):
    return " + ".join(texts) if texts else NOTHING


def shown_heap(heap):
    return shown_rows([shown_simplex(piece) for piece in heap])


def shown_move(one):
    return (PUSH if is_push(one) else TURN) + " " + shown_point(one[1])


def shown_cutting(cutting):
    return shown_rows([shown_simplex(row[0]) + " by " + shown_move(row[1]) for row in cutting])


def refuse_unless(fits):
    if not fits:
        raise NoText("the text is none of those that are read")


def read_whole(text):
    refuse_unless(1 <= len(text) <= MOST_FIGURES and all([sign in FIGURES for sign in text]))
    return int(text)


def read_number(line):
    parts = line.split("/")
    refuse_unless(len(parts) <= 2)
    below = parts[0].startswith("-")
    top = read_whole(parts[0][1:] if below else parts[0])
    bottom = read_whole(parts[1]) if len(parts) == 2 else 1
    refuse_unless(bottom != 0)
    return fraction(-top if below else top, bottom)


def read_point(line):
    parts = [read_number(text) for text in line.split(" ")]
    refuse_unless(len(parts) == 2 or len(parts) == 3)
    return point_at(parts)


def read_corners(text):
    corners = [read_point(part) for part in text.split(", ")]
    refuse_unless(all([len(p) == len(corners) for p in corners]))
    return corners


def read_ring(text):
    ring = [read_point(part) for part in text.split(", ")]
    refuse_unless(all([len(p) == 3 for p in ring]))
    return ring


def read_rows(line):
    return [] if line == NOTHING else line.split(" + ")


def read_heap(line):
    rows = [read_corners(text) for text in read_rows(line)]
    refuse_unless(all([len(corners) == len(rows[0]) for corners in rows]))
    # Only now, as a text that is badly told anywhere is refused ahead of flat corners.
    return tuple([simplex(corners) for corners in rows])


def read_move(text):
    parts = text.partition(" ")
    refuse_unless(parts[0] == PUSH or parts[0] == TURN)
    return move(1 if parts[0] == PUSH else -1, read_point(parts[2]))


def read_piece(text):
    parts = text.split(" by ")
    refuse_unless(len(parts) == 2)
    return (read_corners(parts[0]), read_move(parts[1]))


def read_cutting(line):
    rows = [read_piece(text) for text in read_rows(line)]
    for corners, one in rows:
        refuse_unless(len(corners) == len(one[1]) == len(rows[0][0]))
    return tuple([(simplex(corners), one) for corners, one in rows])

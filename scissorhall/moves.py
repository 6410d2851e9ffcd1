"""Moves (way, arrow): pushes, whose way is 1, and turns, whose way is -1."""

from scissorhall.errors import NoMove
from scissorhall.points import added, lessened, turned
from scissorhall.simplexes import simplex


def move(way, arrow):
    if way != 1 and way != -1:
        raise NoMove("the way of a move is neither 1 nor -1")
    return (way, arrow)


def is_push(move):
    return move[0] == 1


def moved_point(p, move):
    if is_push(move):
        return added(p, move[1])
    return lessened(move[1], p)


def moved(heap, move):
    return tuple([simplex([moved_point(p, move) for p in piece]) for piece in heap])


def after(first, second):
    # The first arrow is where the first move takes the origin.
    return (first[0] * second[0], moved_point(first[1], second))


def undone(move):
    # To turn about the same point once more takes all back.
    if is_push(move):
        return (1, turned(move[1]))
    return move

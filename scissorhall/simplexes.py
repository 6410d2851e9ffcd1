"""Simplexes in their one form: triangles, and bodies of four corners in space."""

from scissorhall.errors import Flat
from scissorhall.lowest import fraction
from scissorhall.points import determinant, side

# The corners of each wall, gone round so that from outside the wall lies on the left (flat: the simplex does).
FLAT_WALLS = ((0, 1), (1, 2), (2, 0))
SPACE_WALLS = ((1, 2, 3), (0, 3, 2), (0, 1, 3), (0, 2, 1))


def simplex(points):
    corners = sorted(points)
    turn = side(corners)
    if turn == 0:
        raise Flat("the corners lie on one line or in one plane")
    if turn < 0:
        # The least corners are to stay ahead, so that the last two change places.
        corners = corners[:-2] + [corners[-1], corners[-2]]
    return tuple(corners)


def replaced(row, place, value):
    return row[:place] + (value,) + row[place + 1:]


def standing(piece, p):
    # With p in the place of one corner, the side tells on which side of the wall across from that corner p lies:
    # 1 for all walls within the simplex, -1 for some wall outside of it.
    return min([side(replaced(piece, k, p)) for k in range(len(piece))])


def walls(piece):
    order = FLAT_WALLS if len(piece) == 3 else SPACE_WALLS
    return [tuple([piece[k] for k in wall]) for wall in order]


def extent(piece):
    share = 2 if len(piece) == 3 else 6
    bottom = share
    for p in piece[1:]:
        bottom = bottom * piece[0][-1] * p[-1]
    return fraction(determinant(piece), bottom)

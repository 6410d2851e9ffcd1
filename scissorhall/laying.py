"""Simplexes folded onto one floor, laid onto others that have as many layers over each of its regions."""

from scissorhall.cells import half, within
from scissorhall.floors import drawn, turned_over
from scissorhall.lowest import reduced


class Share:
    def __init__(self, layer, regions, taken):
        # Of a layer the regions that the other simplex has too, and those of them that are taken.
        self.layer = layer
        self.regions = regions
        self.taken = taken


def difference(one, other):
    # The move, in steps, from the one layer to the other: x goes to shift + way x.
    way = one.way * other.way
    return (way, tuple([there - way * here for here, there in zip(one.arrow, other.arrow)]))


def meetings(body, others):
    # For each of the others and each move the pairs of layers with free regions in common.
    found = {}
    for k in range(len(others)):
        free = [(layer, layer.free) for layer in others[k].layers if layer.free]
        for one in body.layers:
            own = one.free
            for layer, regions in free:
                if own & regions:
                    found.setdefault((k,) + difference(one, layer), []).append((one, layer))
    return found


def in_order(floor, found, others):
    # What takes most at once goes first, and among such the simplex that has the least to give.
    rows = []
    for key in found:
        common = sum([floor.counted(one.free & other.free) for one, other in found[key]])
        rows.append((-common, others[key[0]].content, key))
    return [row[-1] for row in sorted(rows)]


def take(pairs):
    taken = {}
    for one, other in pairs:
        regions = one.free & other.free
        if regions:
            one.free = one.free ^ regions
            other.free = other.free ^ regions
            taken[(one.arrow, one.way)] = regions
    return taken


def shares(body, other, key, taken):
    found = []
    theirs = {}
    for layer in other.layers:
        theirs[(layer.arrow, layer.way)] = layer.regions
    for layer in body.layers:
        there = tuple([key[2][k] + key[1] * layer.arrow[k] for k in range(len(key[2]))])
        regions = layer.regions & theirs.get((there, key[1] * layer.way), 0)
        if regions:
            found.append(Share(layer, regions, taken.get((layer.arrow, layer.way), 0)))
    return found


def unlike(floor, rows):
    # How many regions would go wrong, were all the rows taken, or none of them, whichever is less.
    taken = sum([floor.counted(row.taken) for row in rows])
    return min(taken, sum([floor.counted(row.regions) for row in rows]) - taken)


def low_end(floor, layer, place):
    # Twice the least measure of the layer's floor, where it lies in the simplex.
    if layer.way == 1:
        return 2 * layer.arrow[place]
    return 2 * layer.arrow[place] - floor.spread[place]


def between_floors(floor, rows):
    # Of all the cuts between floors the one that best parts what is taken from what is not.
    best = None
    for place in range(len(floor.spread)):
        ends = [low_end(floor, row.layer, place) for row in rows]
        for end in sorted(set(ends))[1:]:
            front = [row for row, low in zip(rows, ends) if low >= end]
            behind = [row for row, low in zip(rows, ends) if low < end]
            cost = unlike(floor, front) + unlike(floor, behind)
            if best is None or cost < best[0]:
                line = [2 if k == place else 0 for k in range(len(floor.spread))] + [-end]
                best = (cost, tuple(reduced(line)), front, behind)
    return best


def parted_by(row, regions):
    return [Share(row.layer, row.regions & regions, row.taken & regions)]


def within_floor(floor, row):
    # Of all the lines over the one floor the one that best parts what is taken from what is not.
    best = None
    for line in floor.lines:
        regions = floor.in_front(line)
        if row.regions & regions and row.regions & ~regions:
            front = parted_by(row, regions)
            behind = parted_by(row, ~regions)
            cost = unlike(floor, front) + unlike(floor, behind)
            if best is None or cost < best[0]:
                best = (cost, line, front, behind)
    # From the floor back to where the layer lies in the simplex.
    way = row.layer.way
    back = [-way * number for number in row.layer.arrow]
    return (best[0], drawn(best[1], way, back), best[2], best[3])


def taken_cells(floor, cell, rows):
    # The cell is cut till in each part all is taken or nothing.
    found = []
    waiting = [(cell, rows)]
    while waiting:
        part = waiting.pop()
        if all([row.taken == row.regions for row in part[1]]):
            found.append(part[0])
        elif any([row.taken for row in part[1]]):
            best = between_floors(floor, part[1]) if len(part[1]) > 1 else within_floor(floor, part[1][0])
            waiting.append((half(part[0], best[1]), best[2]))
            waiting.append((half(part[0], turned_over(best[1])), best[3]))
    return found


def laid(floor, ones, others):
    # Rows (place in ones, place in others, way, shift, cells), the cells and the shift in steps.
    found = []
    for i in range(len(ones)):
        body = ones[i]
        pairs = meetings(body, others)
        for key in in_order(floor, pairs, others):
            taken = take(pairs[key])
            if taken:
                other = others[key[0]]
                cell = within(body.cell, [drawn(line, key[1], key[2]) for line in other.blades])
                cells = taken_cells(floor, cell, shares(body, other, key, taken))
                found.append((i,) + key + (cells,))
    return found

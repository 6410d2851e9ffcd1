"""The desk: heaps kept by names, told by lines."""

from scissorhall.errors import NoAgain, NoName, NoRow, NoUndo, OtherKind, OtherSize, OtherSum
from scissorhall.heaps import count_at, same, size
from scissorhall.leading import led, pushed
from scissorhall.moves import move, moved
from scissorhall.solids import prism, pyramid, walked
from scissorhall.texts import read_heap, read_point, read_ring, shown_heap, shown_number
from scissorhall.turns import never

LETTERS = "abcdefghijklmnopqrstuvwxyz"
LONGEST_NAME = 12
FLAT = 3
SPACE = 4


def kind_of(heap):
    # As many as a point's numbers, or None: a heap of no simplex serves as either kind.
    return len(heap[0]) if heap else None


def ask_kind(found, asked):
    if found is not None and asked is not None and found != asked:
        raise OtherKind("a flat thing stands where one in space is asked, or the other way about")


def put(heaps, text):
    return read_heap(text)


def walk(heaps, text):
    return walked(read_ring(text))


def both(heaps, text):
    ask_kind(kind_of(heaps[0]), kind_of(heaps[1]))
    return heaps[0] + heaps[1]


def moved_by(heap, way, text):
    arrow = read_point(text)
    ask_kind(kind_of(heap), len(arrow))
    return moved(heap, move(way, arrow))


def push(heaps, text):
    return moved_by(heaps[0], 1, text)


def turn(heaps, text):
    return moved_by(heaps[0], -1, text)


def read_above(heap, text):
    # The arrow or point in space over a flat heap.
    p = read_point(text)
    ask_kind(kind_of(heap), FLAT)
    ask_kind(len(p), SPACE)
    return p


def raise_prism(heaps, text):
    return prism(heaps[0], read_above(heaps[0], text))


def raise_pyramid(heaps, text):
    return pyramid(heaps[0], read_above(heaps[0], text))


def tell_shown(heaps, text):
    return shown_heap(heaps[0])


def tell_size(heaps, text):
    return shown_number(size(heaps[0]))


def tell_count(heaps, text):
    p = read_point(text)
    ask_kind(kind_of(heaps[0]), len(p))
    return str(count_at(heaps[0], p))


def tell_same(heaps, text):
    ask_kind(kind_of(heaps[0]), kind_of(heaps[1]))
    return "yes" if same(heaps[0], heaps[1]) else "no"


def numbers_of(key):
    # A way, or two of them.
    return key[0] + key[1] if isinstance(key[0], tuple) else key


def shown_key(numbers):
    return " ".join([str(number) for number in numbers])


def tell_leading(heaps, leading):
    ask_kind(kind_of(heaps[0]), kind_of(heaps[1]))
    try:
        leading(heaps[0], heaps[1])
    except OtherSize:
        return "size"
    except OtherSum as refusal:
        return "sum " + shown_key(numbers_of(refusal.key))
    return "yes"


def tell_led(heaps, text):
    return tell_leading(heaps, led)


def tell_pushed(heaps, text):
    return tell_leading(heaps, pushed)


def tell_never(heaps, text):
    for heap in heaps:
        ask_kind(kind_of(heap), SPACE)
    key = never(heaps[0], heaps[1])
    return "open" if key is None else "never " + shown_key(key)


# Each line by its first word: how many names follow, and whether a text does behind them.
FORMS = {
    "put": (1, True),
    "walk": (1, True),
    "both": (3, False),
    "push": (2, True),
    "turn": (2, True),
    "prism": (2, True),
    "pyramid": (2, True),
    "drop": (1, False),
    "undo": (0, False),
    "again": (0, False),
    "names": (0, False),
    "shown": (1, False),
    "size": (1, False),
    "count": (1, True),
    "same": (2, False),
    "led": (2, False),
    "pushed": (2, False),
    "never": (2, False),
}
# What a name comes to stand for, of the heaps of the names behind it and the text.
DEEDS = {
    "put": put,
    "walk": walk,
    "both": both,
    "push": push,
    "turn": turn,
    "prism": raise_prism,
    "pyramid": raise_pyramid,
}
QUESTIONS = {
    "shown": tell_shown,
    "size": tell_size,
    "count": tell_count,
    "same": tell_same,
    "led": tell_led,
    "pushed": tell_pushed,
    "never": tell_never,
}


def is_name(word):
    return 1 <= len(word) <= LONGEST_NAME and all([sign in LETTERS for sign in word])


def read_row(line):
    words = line.split(" ")
    if words[0] not in FORMS:
        raise NoRow("the line begins with none of the words that are known")
    form = FORMS[words[0]]
    names = words[1:1 + form[0]]
    rest = words[1 + form[0]:]
    # All behind the blank behind the names is the text, be it nothing.
    if (len(rest) > 0) != form[1] or len(names) < form[0] or not all([is_name(word) for word in names]):
        raise NoRow("the line has other words than such a line has")
    return (words[0], names, " ".join(rest))


class Desk:
    def __init__(self):
        self.heaps = {}
        # How all names stood ahead of each deed, and how they stood behind those that are taken back.
        self.past = []
        self.future = []

    def tell(self, line):
        row = read_row(line)
        word = row[0]
        names = row[1]
        if word in QUESTIONS:
            return QUESTIONS[word](self.found(names), row[2])
        if word == "names":
            return " ".join(sorted(self.heaps)) if self.heaps else "none"
        if word == "undo":
            self.take_back()
        elif word == "again":
            self.do_again()
        elif word == "drop":
            self.found(names)
            self.let_stand(names[0], None)
        else:
            self.let_stand(names[0], DEEDS[word](self.found(names[1:]), row[2]))
        return "done"

    def found(self, names):
        if not all([name in self.heaps for name in names]):
            raise NoName("the name stands for nothing")
        return [self.heaps[name] for name in names]

    def let_stand(self, name, heap):
        self.past.append(self.heaps)
        self.future = []
        heaps = dict(self.heaps)
        if heap is None:
            heaps.pop(name)
        else:
            heaps[name] = heap
        self.heaps = heaps

    def take_back(self):
        if not self.past:
            raise NoUndo("no deed is left to be taken back")
        self.future.append(self.heaps)
        self.heaps = self.past.pop()

    def do_again(self):
        if not self.future:
            raise NoAgain("no deed is left that was taken back")
        self.past.append(self.heaps)
        self.heaps = self.future.pop()

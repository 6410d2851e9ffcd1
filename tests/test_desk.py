"""The desk: [41] to [45], and of [1] to [5] what holds for it."""

import itertools
import unittest
from fractions import Fraction

from kinds import CORNER, CUBE_OF_SIX, FLAT_HEAP, SPACE_HEAP, SQUARE, SQUARE_OTHERWISE, arguments, content, made
from kinds import moved_by, prism_over, spot, stretched
from scissorhall.cuts import cut
from scissorhall.desk import Desk
from scissorhall.errors import Backward, Flat, HallError, NoAgain, NoName, NoRow, NoText, NoUndo, OnSide, OtherKind
from scissorhall.errors import OtherSum, TooGreat, TooSteep, TooWide
from scissorhall.heaps import same
from scissorhall.leading import led, pushed
from scissorhall.texts import read_heap, shown_heap

HALF = "0 0, 1 0, 0 1"
OTHER = "0 1, 1 0, 1 1"
WHOLE = HALF + " + " + OTHER
BODY = "0 0 0, 0 0 1, 1 0 0, 0 1 0"
CUBE = shown_heap(CUBE_OF_SIX)
SIXTY = "9" * 60
# What stands on the desk of most tests.
STANDING = (
    ("half", HALF), ("other", OTHER), ("square", WHOLE), ("body", BODY), ("cube", CUBE), ("nothing", "none"),
    ("flat", shown_heap(FLAT_HEAP)), ("space", shown_heap(SPACE_HEAP)),
)
FLAT_NAMES = ("half", "other", "square", "flat")
SPACE_NAMES = ("body", "cube", "space")


def desk_with(rows=STANDING):
    desk = Desk()
    for name, text in rows:
        desk.tell(f"put {name} {text}")
    return desk


def all_shown(desk):
    """All that can be seen of a desk's heaps."""
    names = desk.tell("names")
    return [(name, desk.tell(f"shown {name}")) for name in names.split(" ")] if names != "none" else []


class DeskCase(unittest.TestCase):
    def setUp(self):
        self.desk = desk_with()

    def assert_done(self, line):
        self.assertEqual(self.desk.tell(line), "done", line)

    def assert_answer(self, line, answer):
        """A question, which changes nothing."""
        kept = all_shown(self.desk)
        self.assertEqual(self.desk.tell(line), answer, line)
        self.assertIs(type(self.desk.tell(line)), str)
        self.assertEqual(all_shown(self.desk), kept)

    def assert_refused(self, line, kind):
        """Refused with this very class; nothing changes."""
        kept = all_shown(self.desk)
        with self.assertRaises(HallError, msg=line) as caught:
            self.desk.tell(line)
        self.assertIs(type(caught.exception), kind, line)
        self.assertEqual(all_shown(self.desk), kept, line)
        return caught.exception

    def assert_shown(self, name, text):
        self.assertEqual(self.desk.tell(f"shown {name}"), text)


class Interface(unittest.TestCase):
    def test_arguments(self):
        self.assertEqual(arguments(Desk), [])
        self.assertEqual(arguments(Desk.tell), ["self", "line"])

    def test_a_new_desk(self):
        self.assertEqual(Desk().tell("names"), "none")
        self.assertRaises(NoUndo, Desk().tell, "undo")
        self.assertRaises(NoAgain, Desk().tell, "again")


class Rows(DeskCase):
    def test_no_row(self):
        lines = [
            "", " ", "put", "put ", "put  ", "put a", "put  none", " put a none", "puta none", "Put a none",
            "PUT a none",
            "walk", "walk a", "walk ", "both", "both a", "both a half", "both a half ", "both a half other ",
            "both a half other half",
            "both  a half other", "push", "push a", "push a half", "push a", "push  a half 0 0", "push a  half 0 0",
            "turn", "turn a", "turn a half", "prism", "prism a half", "pyramid a half", "pyramid", "drop", "drop ",
            "drop half ",
            "drop  half", " drop half", "drop half other", "names ", " names", "names half", "shown", "shown ",
            "shown half ",
            "shown half other", "size", "size half ", "size  half", "count", "count half", "count ", "same half",
            "same half ",
            "same half other ", "same  half other", "same half  other", "led half", "led half other half",
            "pushed half",
            "pushed half other ", "never body", "never body cube ", "undo ", " undo", "undo 1", "again ",
            "again again", "undo undo",
            "shift a half 0 0", "box a 0 0", "none", HALF, "say names", "names\n", "boxed half 1",
        ]
        for line in lines:
            self.assert_refused(line, NoRow)

    def test_names_that_are_none(self):
        for name in ("", "A", "a1", "1", "a_b", "a-b", "aB", "abcdefghijklm", "a" * 13, "a" * 40, "a.", "~", "a,"):
            lines = (
                f"put {name} none", f"walk {name} 0 0", f"both {name} half half", f"both a {name} half",
                f"both a half {name}",
                f"push {name} half 0 0", f"push a {name} 0 0", f"turn {name} half 0 0", f"prism a {name} 0 0 1",
                f"pyramid {name} half 0 0 1", f"drop {name}", f"shown {name}", f"size {name}", f"count {name} 0 0",
                f"same {name} half", f"same half {name}", f"led {name} half", f"pushed half {name}",
                f"never {name} body",
            )
            for line in lines:
                self.assert_refused(line, NoRow)

    def test_names_of_one_and_of_twelve_letters(self):
        desk = Desk()
        for name in ("a", "z", "abcdefghijkl", "mnopqrstuvwx", "names", "none", "put", "undo"):
            self.assertEqual(desk.tell(f"put {name} {HALF}"), "done")
            self.assertEqual(desk.tell(f"shown {name}"), HALF)
        self.assertEqual(desk.tell("names"), "a abcdefghijkl mnopqrstuvwx names none put undo z")

    def test_what_follows_the_name_is_the_text_whatever_it_is(self):
        for line in ("put a ", "put a  ", "put a  none", "put a none ", "put a x", "put half ", f"put a {HALF} "):
            self.assert_refused(line, NoText)
        for line in (
            "walk a ", "walk a  0 0", "walk a 0 0 ", "walk a none", "push a half ", "push a half  1 2",
            "push a half 1 2 ",
        ):
            self.assert_refused(line, NoText)
        for line in ("turn a half ", "turn a half 1", "prism a half ", "prism a half  0 0 1", "prism a half 1 2 3 4"):
            self.assert_refused(line, NoText)
        for line in (
            "pyramid a half ", "pyramid a half 0 0 1 ", "count half ", "count half  1 1", "count half 1",
            "count half 1 1 ",
        ):
            self.assert_refused(line, NoText)

    def test_no_name(self):
        lines = (
            "both a half gone", "both a gone half", "both gone gone gone", "push a gone 0 0", "turn half gone 0 0",
            "prism a gone 0 0 1",
            "pyramid a gone 0 0 1", "drop gone", "shown gone", "size gone", "count gone 0 0", "same gone half",
            "same half gone",
            "led gone half", "led half gone", "pushed half gone", "pushed gone gone", "never gone body",
            "never body gone",
        )
        for line in lines:
            self.assert_refused(line, NoName)


class Order(DeskCase):
    def test_no_row_ahead_of_no_name(self):
        for line in (
            "shown Gone", "same gone half ", "push A gone 0 0", "push a gone", "drop gone ", "both a gone",
            "led gone B",
        ):
            self.assert_refused(line, NoRow)

    def test_no_name_ahead_of_the_text(self):
        for line in (
            "push a gone ", "push a gone x", "turn a gone 0", "prism a gone none", "pyramid a gone ", "count gone ",
            "count gone x",
        ):
            self.assert_refused(line, NoName)

    def test_no_name_ahead_of_other_kind(self):
        for line in ("both a half gone", "never half gone", "never gone half", "led gone body", "prism a gone 0 0"):
            self.assert_refused(line, NoName)

    def test_the_text_ahead_of_other_kind(self):
        for line in (
            "push a body 1", "prism a body x", "prism a body 0 0 1 ", "count body 1/0 0", "pyramid a cube  0 0",
        ):
            self.assert_refused(line, NoText)

    def test_other_kind_ahead_of_what_the_deed_refuses(self):
        for line in ("prism a body 0 0 0", "prism a half 0 0", "pyramid a body 1 2 0", "pyramid a half 0 0"):
            self.assert_refused(line, OtherKind)
        self.assert_refused("count body 0 0", OtherKind)
        self.assert_refused("count half 0 0 0", OtherKind)
        self.desk.tell("put steep 0 0 0, 1 0 0, 0 1 0, 1000 2000 1")
        self.assert_refused("never steep half", OtherKind)
        self.assert_refused("never half steep", OtherKind)

    def test_no_text_ahead_of_flat(self):
        self.assert_refused("put a 0 0, 1 1, 2 2 + x", NoText)
        self.assert_refused("put a 0 0, 1 1, 2 2", Flat)
        self.assert_refused("put half 0 0 0, 1 0 0, 0 1 0, 1 1 0", Flat)


class OtherKinds(DeskCase):
    def test_two_things_of_one_kind(self):
        for flat, space in itertools.product(FLAT_NAMES, SPACE_NAMES):
            for word in ("same", "led", "pushed"):
                self.assert_refused(f"{word} {flat} {space}", OtherKind)
                self.assert_refused(f"{word} {space} {flat}", OtherKind)
            self.assert_refused(f"both a {flat} {space}", OtherKind)
            self.assert_refused(f"both a {space} {flat}", OtherKind)

    def test_an_arrow_or_a_point_of_another_kind(self):
        for name in FLAT_NAMES:
            for line in (
                f"push a {name} 1 2 3", f"turn a {name} 1 2 3", f"count {name} 1 2 3", f"prism a {name} 1 2",
                f"pyramid a {name} 1 2",
            ):
                self.assert_refused(line, OtherKind)
        for name in SPACE_NAMES:
            for line in (
                f"push a {name} 1 2", f"turn a {name} 1 2", f"count {name} 1 2", f"prism a {name} 1 2",
                f"prism a {name} 1 2 3",
            ):
                self.assert_refused(line, OtherKind)
            self.assert_refused(f"pyramid a {name} 1 2 3", OtherKind)
            self.assert_refused(f"pyramid a {name} 1 2", OtherKind)

    def test_never_asks_heaps_in_space(self):
        for flat in FLAT_NAMES:
            for line in (
                f"never {flat} {flat}", f"never {flat} body", f"never body {flat}", f"never {flat} nothing",
                f"never nothing {flat}",
            ):
                self.assert_refused(line, OtherKind)

    def test_no_simplex_serves_as_both(self):
        for name in FLAT_NAMES + SPACE_NAMES + ("nothing",):
            self.assert_answer(f"same {name} nothing", "yes" if name == "nothing" else "no")
            self.assert_answer(f"led nothing {name}", "yes" if name == "nothing" else "size")
            self.assert_answer(f"pushed {name} nothing", "yes" if name == "nothing" else "size")
            self.assert_done(f"both a {name} nothing")
            self.assert_answer(f"same a {name}", "yes")
            self.assert_done(f"both a nothing {name}")
            self.assert_answer(f"same a {name}", "yes")
        for line in (
            "push a nothing 1 2", "push a nothing 1 2 3", "turn a nothing 0 0", "turn a nothing 0 0 0",
            "prism a nothing 0 0 1", "pyramid a nothing 1 2 3",
        ):
            self.assert_done(line)
            self.assert_shown("a", "none")
        self.assert_answer("count nothing 1 2", "0")
        self.assert_answer("count nothing 1 2 3", "0")
        self.assert_answer("size nothing", "0")
        self.assert_answer("never nothing nothing", "open")
        self.assert_answer("never nothing cube", "open")
        self.assert_answer("never body nothing", "never 2 3")
        self.assert_refused("prism a nothing 1 2", OtherKind)
        self.assert_refused("pyramid a nothing 1 2", OtherKind)
        self.assert_refused("prism a nothing 1 2 0", Flat)
        self.assert_refused("pyramid a nothing 1 2 0", Flat)


class Deeds(DeskCase):
    def test_put(self):
        self.assert_done("put a none")
        self.assert_shown("a", "none")
        self.assert_done("put a 1/2 0, 0 0, 0 6/4")
        self.assert_shown("a", "0 0, 1/2 0, 0 3/2")
        self.assert_done("put a " + CUBE + " + " + BODY)
        self.assert_shown("a", CUBE + " + " + BODY)
        self.assert_refused("put a " + HALF + " + " + BODY, NoText)

    def test_walk(self):
        self.assert_done("walk a 0 0, 1 0, 1 1, 0 1")
        self.assert_answer("same a square", "yes")
        self.assert_answer("size a", "1")
        self.assert_answer("count a 1/3 1/5", "1")
        self.assert_done("walk a 0 0, 1 0, 1 1, 0 1, 0 0, 1 0, 1 1, 0 1")
        self.assert_answer("size a", "2")
        self.assertTrue(same(read_heap(self.desk.tell("shown a")), SQUARE * 2))
        for text in ("0 0", "0 0, 0 0", "1/2 7, 3 4", "0 0, 1 1, 5 5"):
            self.assert_done(f"walk a {text}")
            self.assert_shown("a", "none")

    def test_walks_that_are_refused(self):
        self.assert_refused("walk a 0 0, 0 1, 1 1, 1 0", Backward)
        self.assert_refused("walk half 0 0, 1 1, 1 0, 0 1", Backward)
        for text in (
            "", "none", "0 0,1 0,1 1", "0 0, 1 0, 1 1,", "0 0, 1 0, 1 1, ", "0", "0 0 0", "0 0 0, 1 0 0, 1 1 0",
            "0 0, 1 0, 1 1 1", "0 0 + 1 1", "0 0, , 1 1", "0 1, 0 0, x",
        ):
            self.assert_refused(f"walk a {text}", NoText)

    def test_both(self):
        self.assert_done("both a half other")
        self.assert_shown("a", WHOLE)
        self.assert_done("both a other half")
        self.assert_shown("a", OTHER + " + " + HALF)
        self.assert_done("both half half half")
        self.assert_shown("half", HALF + " + " + HALF)
        self.assert_done("both cube body cube")
        self.assert_shown("cube", BODY + " + " + CUBE)

    def test_push_and_turn(self):
        self.assert_done("push a half 1/2 -3")
        self.assert_shown("a", "1/2 -3, 3/2 -3, 1/2 -2")
        self.assert_done("turn a half 1 1")
        self.assert_shown("a", OTHER)
        self.assert_done("turn half half 1 1")
        self.assert_shown("half", OTHER)
        self.assert_done("push body body 0 0 1")
        self.assert_shown("body", shown_heap(moved_by((CORNER,), 1, spot(0, 0, 1))))
        self.assert_done("turn body cube 1 1 1")
        self.assert_answer("same body cube", "yes")
        self.assert_done("turn a square 1/2 4/3")
        self.assert_shown("a", shown_heap(moved_by(SQUARE, -1, spot("1/2", "4/3"))))

    def test_prism_and_pyramid(self):
        self.assert_done("prism a half 0 0 1")
        self.assert_shown("a", shown_heap(prism_over((SQUARE[0],), (0, 0, 1))))
        self.assert_answer("size a", "1/2")
        self.assert_done("prism square square 1/2 0 -2")
        self.assert_shown("square", shown_heap(prism_over(SQUARE, ("1/2", 0, -2))))
        self.assert_done("pyramid a half 0 0 1")
        self.assert_answer("same a body", "yes")
        self.assert_answer("size a", "1/6")
        self.assert_refused("prism a other 1 2 0", Flat)
        self.assert_refused("pyramid a other 1 2 0/5", Flat)

    def test_drop(self):
        self.assert_done("drop half")
        self.assert_answer("names", "body cube flat nothing other space square")
        self.assert_refused("drop half", NoName)
        self.assert_refused("shown half", NoName)
        for name in ("body", "cube", "flat", "nothing", "other", "space", "square"):
            self.assert_done(f"drop {name}")
        self.assert_answer("names", "none")

    def test_a_name_that_stood_for_another_kind(self):
        self.assert_done("put half " + BODY)
        self.assert_shown("half", BODY)
        self.assert_done("prism other other 0 0 1")
        self.assert_done("both half half other")

    def test_names_are_looked_up_ahead_of_the_deed(self):
        self.assert_refused("push a a 0 0", NoName)
        self.assert_refused("both a a half", NoName)
        self.assert_done("push half half 1 0")
        self.assert_done("push half half 1 0")
        self.assert_shown("half", "2 0, 3 0, 2 1")


class Questions(DeskCase):
    def test_names(self):
        self.assert_answer("names", "body cube flat half nothing other space square")

    def test_shown_and_size(self):
        for name, text in STANDING:
            self.assert_answer(f"shown {name}", text)
        for name, heap in (("flat", FLAT_HEAP), ("space", SPACE_HEAP), ("cube", CUBE_OF_SIX), ("body", (CORNER,))):
            size = sum(content(piece) for piece in heap)
            self.assert_answer(f"size {name}", str(size))

    def test_count(self):
        self.assert_answer("count half 1/4 1/4", "1")
        self.assert_answer("count half 3/4 3/4", "0")
        self.assert_done("both a square half")
        self.assert_answer("count a 1/4 1/3", "2")
        self.assert_answer("count body 1/10 1/10 1/10", "1")
        self.assert_answer("count body 1 1 -1", "0")
        for line in (
            "count half 0 0", "count half 1/2 1/2", "count square 1/2 1/2", "count body 0 0 0", "count cube 1 1/2 1/3",
        ):
            self.assert_refused(line, OnSide)

    def test_same(self):
        self.desk.tell("put otherwise " + shown_heap(SQUARE_OTHERWISE))
        self.assert_answer("same square otherwise", "yes")
        self.assert_answer("same square square", "yes")
        self.assert_answer("same half other", "no")
        self.assert_answer("same body cube", "no")
        self.assert_answer("same nothing nothing", "yes")

    def test_led(self):
        self.assert_answer("led half other", "yes")
        self.assert_answer("led half half", "yes")
        self.assert_answer("led half square", "size")
        self.desk.tell("both two half half")
        self.assert_answer("led two square", "yes")
        self.assert_answer("led body body", "yes")
        self.assert_answer("led body cube", "size")
        self.desk.tell("put six " + " + ".join([BODY] * 6))
        self.assert_answer("led six cube", "sum 0 0 1 0 1 0")
        self.assert_answer("led cube six", "sum 0 0 1 0 1 0")

    def test_led_with_signs(self):
        self.desk.tell("put one 0 0 0, 1 0 0, 0 1 0, 0 0 1")
        self.desk.tell("put two 0 0 0, 1 0 0, 0 1 0, 1 -1 1")
        answer = self.desk.tell("led one two")
        self.assertTrue(answer.startswith("sum "))
        self.assertEqual(len(answer.split(" ")), 7)

    def test_pushed(self):
        self.assert_answer("pushed half other", "sum 0 1")
        self.assert_answer("pushed half half", "yes")
        self.assert_answer("pushed half square", "size")
        self.desk.tell("put low 0 0, 2 0, 2 1/2 + 0 0, 2 1/2, 0 1/2")
        self.assert_answer("pushed square low", "yes")
        self.desk.tell("turn back body 0 0 0")
        self.assert_answer("pushed body back", "sum 0 0 1")
        self.assert_answer("led body back", "yes")
        self.desk.tell("put six " + " + ".join([BODY] * 6))
        self.desk.tell("turn xis six 0 0 0")
        self.desk.tell("both six six xis")
        self.desk.tell("both cubes cube cube")
        self.assert_answer("pushed six cubes", "sum 0 0 1 0 1 0")
        self.assert_answer("pushed cube cube", "yes")
        self.desk.tell("put upper 0 0, 1 1, 0 1")
        self.assert_answer("pushed half upper", "sum 1 -1")

    def test_never(self):
        self.assert_answer("never body cube", "never 2 3")
        self.assert_answer("never body body", "open")
        self.assert_answer("never cube cube", "open")
        self.desk.tell("turn back body 0 1/2 0")
        self.assert_answer("never body back", "open")

    def test_too_wide(self):
        self.desk.tell("put thin 0 0, 1 0, 20 1")
        for word in ("led", "pushed"):
            refused = self.assert_refused(f"{word} thin thin", TooWide)
            self.assertEqual((refused.lines, refused.cells), (42, (1, 2)))
        self.assert_answer("led thin square", "size")
        self.assert_answer("pushed thin half", "sum 0 1")

    def test_too_steep(self):
        self.desk.tell("put steep 0 0 0, 301 1 0, 0 1 0, 0 0 1")
        for line in ("never steep body", "never body steep", "never steep steep", "never nothing steep"):
            self.assertEqual(self.assert_refused(line, TooSteep).number, 301)

    def test_too_great(self):
        self.desk.tell(f"put long 0 0, {SIXTY} 0, 0 1")
        self.assert_answer("shown long", f"0 0, {SIXTY} 0, 0 1")
        self.assert_answer("size long", f"{SIXTY}/2")
        self.desk.tell(f"push far long {SIXTY} 0")
        with self.assertRaises(TooGreat):
            self.desk.tell("shown far")
        self.assertEqual(self.desk.tell("size far"), f"{SIXTY}/2")
        self.desk.tell("both double long long")
        self.assertEqual(self.desk.tell("size double"), SIXTY)
        self.desk.tell("both more double long")
        with self.assertRaises(TooGreat):
            self.desk.tell("size more")
        self.desk.tell(f"put small 0 0, 1/{SIXTY} 0, 0 1/{SIXTY}")
        with self.assertRaises(TooGreat):
            self.desk.tell("size small")

    def assert_long_key(self, rows):
        """Of a simplex and the same turned about; some of the key's numbers are longer than any that is written."""
        one = (made([spot(*[Fraction(1, bottom) for bottom in row]) for row in rows]),)
        two = moved_by(one, -1, spot(*[0] * len(rows[0])))
        self.desk.tell("put one " + shown_heap(one))
        self.desk.tell("put two " + shown_heap(two))
        with self.assertRaises(OtherSum) as caught:
            pushed(one, two)
        key = caught.exception.key
        self.assertGreater(max(len(str(abs(number))) for number in key), 60)
        self.assertLess(max(len(str(abs(number))) for number in key), 120)
        self.assertEqual(self.desk.tell("pushed one two"), "sum " + " ".join(str(number) for number in key))

    def test_keys_of_more_than_sixty_figures(self):
        bottoms = [k * 10 ** 29 + k * k + 6 for k in (1, 3, 5, 7, 11, 13)]
        self.assert_long_key(list(zip(bottoms[:3], bottoms[3:])))

    def test_keys_in_space_of_more_than_sixty_figures(self):
        bottoms = [k * 10 ** 12 + k * k + 6 for k in (1, 3, 5, 7, 11, 13, 17, 19, 23, 29, 31, 37)]
        self.assert_long_key(list(zip(bottoms[:4], bottoms[4:8], bottoms[8:])))

    def test_keys_of_two_long_ways(self):
        bottoms = [k * 10 ** 12 + k * k + 6 for k in (1, 3, 5, 7, 11, 13, 17, 19, 23, 29, 31, 37)]
        rows = zip(bottoms[:4], bottoms[4:8], bottoms[8:])
        one = (made([spot(*[Fraction(1, bottom) for bottom in row]) for row in rows]),)
        two = stretched(one, (2, "1/2", 1))
        self.desk.tell("put one " + shown_heap(one))
        self.desk.tell("put two " + shown_heap(two))
        with self.assertRaises(OtherSum) as caught:
            led(one, two)
        numbers = sum(caught.exception.key, ())
        self.assertEqual(len(numbers), 6)
        self.assertGreater(max(len(str(abs(number))) for number in numbers), 60)
        self.assertEqual(self.desk.tell("led one two"), "sum " + " ".join(str(number) for number in numbers))

    def test_one_name_for_all(self):
        for line, answer in (
            ("same half half", "yes"), ("led cube cube", "yes"), ("pushed cube cube", "yes"),
            ("never body body", "open"),
        ):
            self.assert_answer(line, answer)


class UndoAndAgain(DeskCase):
    def setUp(self):
        self.desk = Desk()

    def test_nothing_to_take_back(self):
        self.assert_refused("undo", NoUndo)
        self.assert_refused("again", NoAgain)

    def test_each_deed_back_and_again(self):
        lines = (
            "put a " + HALF, "put b " + OTHER, "both c a b", "walk a 0 0, 2 0, 2 2, 0 2", "push a a 1 1",
            "turn b b 1/2 3",
            "prism d b 0 0 1", "pyramid d c 1 2 3", "drop b", "put b none", "drop a",
        )
        seen = [all_shown(self.desk)]
        for line in lines:
            self.assert_done(line)
            seen.append(all_shown(self.desk))
        for times in range(2):
            for k in range(len(lines) - 1, -1, -1):
                self.assert_done("undo")
                self.assertEqual(all_shown(self.desk), seen[k])
            self.assert_refused("undo", NoUndo)
            for k in range(len(lines)):
                self.assert_done("again")
                self.assertEqual(all_shown(self.desk), seen[k + 1])
            self.assert_refused("again", NoAgain)

    def test_deeds_that_leave_all_as_it_was_count(self):
        self.assert_done("put a " + HALF)
        for line in ("put a " + HALF, "push a a 0 0", "both b a a", "both b a a"):
            self.assert_done(line)
        self.assert_done("undo")
        self.assert_answer("names", "a b")
        self.assert_done("undo")
        self.assert_answer("names", "a")
        for times in range(3):
            self.assert_done("undo")
        self.assert_answer("names", "none")
        self.assert_refused("undo", NoUndo)
        for times in range(5):
            self.assert_done("again")
        self.assert_refused("again", NoAgain)

    def test_a_new_deed_behind_an_undo(self):
        for line in ("put a " + HALF, "put b " + OTHER, "put c none", "undo", "undo"):
            self.assert_done(line)
        self.assert_done("put d " + BODY)
        self.assert_refused("again", NoAgain)
        self.assert_answer("names", "a d")
        self.assert_done("undo")
        self.assert_answer("names", "a")
        self.assert_done("again")
        self.assert_answer("names", "a d")
        self.assert_refused("again", NoAgain)

    def test_a_new_deed_that_leaves_all_as_it_was(self):
        for line in ("put a " + HALF, "put b " + OTHER, "undo", "put a " + HALF):
            self.assert_done(line)
        self.assert_refused("again", NoAgain)

    def test_questions_and_refusals_in_between_count_for_nothing(self):
        for line in ("put a " + HALF, "put b " + OTHER, "undo"):
            self.assert_done(line)
        questions = ("names", "shown a", "size a", "count a 1/4 1/4", "same a a", "led a a", "pushed a a")
        refused = (
            "put b x", "drop b", "walk a 0 0, 0 1, 1 0", "push a b 0 0", "prism a a 0 0 0", "nothing", "both a a b",
            "push a a 0 0 0", "count a 0 0", "again 1",
        )
        for line in questions:
            self.desk.tell(line)
        for line in refused:
            self.assertRaises(HallError, self.desk.tell, line)
        self.assert_done("again")
        self.assert_answer("names", "a b")
        for line in refused[3:6] + questions:
            try:
                self.desk.tell(line)
            except HallError:
                continue
        for times in range(len(("a", "b")) + 1):
            self.desk.tell("undo")
        self.assert_refused("undo", NoUndo)

    def test_a_refused_undo_or_again_changes_nothing(self):
        self.assert_done("put a " + HALF)
        self.assert_refused("again", NoAgain)
        self.assert_done("undo")
        self.assert_refused("undo", NoUndo)
        self.assert_done("again")
        self.assert_shown("a", HALF)

    def test_drop_taken_back(self):
        self.assert_done("put a " + HALF)
        self.assert_done("drop a")
        self.assert_refused("drop a", NoName)
        self.assert_done("undo")
        self.assert_shown("a", HALF)
        self.assert_done("again")
        self.assert_refused("shown a", NoName)


class Whole(DeskCase):
    def test_two_desks(self):
        one, other = Desk(), Desk()
        one.tell("put a " + HALF)
        self.assertEqual(other.tell("names"), "none")
        self.assertRaises(NoUndo, other.tell, "undo")
        other.tell("put a " + OTHER)
        other.tell("put b none")
        one.tell("undo")
        self.assertEqual(one.tell("names"), "none")
        self.assertEqual(other.tell("names"), "a b")
        self.assertRaises(NoAgain, other.tell, "again")
        one.tell("again")
        self.assertEqual(one.tell("shown a"), HALF)
        self.assertEqual(other.tell("shown a"), OTHER)

    def test_prisms_are_led_to_prisms(self):
        for line in ("prism one half 1 0 2", "prism two other 0 0 2", "prism three square 0 1 1"):
            self.assert_done(line)
        for one, other in itertools.product(("one", "two", "three"), repeat=2):
            self.assert_answer(f"led {one} {other}", "yes")
            self.assert_answer(f"never {one} {other}", "open")
        self.assert_answer("pushed one three", "sum 0 1 0")

    def test_pieces_cut_and_put_together(self):
        front, rest = cut(FLAT_HEAP, (1, 1, -1))
        self.desk.tell("put front " + shown_heap(front))
        self.desk.tell("put rest " + shown_heap(rest))
        self.desk.tell("both whole rest front")
        self.assert_answer("same whole flat", "yes")
        self.assert_answer("same front flat", "no")

    def test_great_heaps(self):
        self.desk.tell("put a " + HALF)
        for times in range(8):
            self.desk.tell("both a a a")
        self.assertEqual(self.desk.tell("size a"), "128")
        self.assertEqual(self.desk.tell("count a 1/5 1/7"), "256")
        self.assertEqual(self.desk.tell("same a a"), "yes")


if __name__ == "__main__":
    unittest.main()

"""The refusals of the interface: scissorhall/errors.py."""

import unittest

from scissorhall import errors
from scissorhall.errors import HallError, OtherSum, TooSteep, TooWide

WITH_TEXT = (
    "NoNumber", "NoPoint", "Flat", "NoBlade", "NoMove", "OnSide", "NotSame", "OtherSize", "Backward",
    "NoBox", "NoText", "TooGreat", "NoRow", "NoName", "NoUndo", "NoAgain", "OtherKind",
)
WITH_FIELDS = {
    "OtherSum": (((1, 0, 0), (0, 1, 0)),),
    "TooWide": (41, (121, 2)),
    "TooSteep": (301,),
}


def refusal_classes():
    return [getattr(errors, name) for name in WITH_TEXT + tuple(WITH_FIELDS)]


def made_refusals():
    made = [getattr(errors, name)("some words") for name in WITH_TEXT]
    return made + [getattr(errors, name)(*fields) for name, fields in WITH_FIELDS.items()]


class Bases(unittest.TestCase):
    def test_there_are_twenty(self):
        self.assertEqual(len(set(refusal_classes())), 20)

    def test_hall_error_stands_under_value_error(self):
        self.assertEqual(HallError.__bases__, (ValueError,))

    def test_each_stands_straight_under_hall_error(self):
        for one in refusal_classes():
            self.assertEqual(one.__bases__, (HallError,), one)

    def test_none_stands_under_another(self):
        for one in refusal_classes():
            for other in refusal_classes():
                if one is not other:
                    self.assertFalse(issubclass(one, other), (one, other))

    def test_each_bears_its_own_name(self):
        names = [one.__name__ for one in refusal_classes()]
        self.assertEqual(names, list(WITH_TEXT) + list(WITH_FIELDS))


class Raised(unittest.TestCase):
    def test_each_is_taken_as_itself_as_hall_error_and_as_value_error(self):
        for refusal in made_refusals():
            for taken_as in (refusal.__class__, HallError, ValueError):
                with self.assertRaises(taken_as) as caught:
                    raise refusal
                self.assertIs(caught.exception, refusal)

    def test_none_is_taken_as_another(self):
        for refusal in made_refusals():
            for other in refusal_classes():
                if other is not refusal.__class__:
                    self.assertNotIsInstance(refusal, other)

    def test_hall_error_itself_is_taken_as_value_error(self):
        with self.assertRaises(ValueError):
            raise HallError("some words")

    def test_the_text_is_there(self):
        for name in WITH_TEXT:
            self.assertEqual(str(getattr(errors, name)("some words")), "some words", name)


class Fields(unittest.TestCase):
    def test_key_of_one_way(self):
        key = (1, -2, 3)
        self.assertIs(OtherSum(key).key, key)

    def test_key_of_two_ways(self):
        key = ((1, 0, 0), (0, 1, -1))
        self.assertIs(OtherSum(key).key, key)

    def test_lines_and_cells(self):
        cells = (121, 2)
        refusal = TooWide(41, cells)
        self.assertEqual(refusal.lines, 41)
        self.assertIs(refusal.cells, cells)

    def test_number(self):
        self.assertEqual(TooSteep(301).number, 301)

    def test_fields_are_each_objects_own(self):
        one, other = TooWide(41, (1, 1)), TooWide(2, (61, 1))
        self.assertEqual((one.lines, one.cells), (41, (1, 1)))
        self.assertEqual((other.lines, other.cells), (2, (61, 1)))

    def test_fields_are_there_when_taken(self):
        with self.assertRaises(HallError) as caught:
            raise TooWide(25, (25, 2))
        self.assertEqual((caught.exception.lines, caught.exception.cells), (25, (25, 2)))
        with self.assertRaises(HallError) as caught:
            raise OtherSum((0, 1))
        self.assertEqual(caught.exception.key, (0, 1))
        with self.assertRaises(HallError) as caught:
            raise TooSteep(1000)
        self.assertEqual(caught.exception.number, 1000)

    def test_each_is_made_with_all_its_fields(self):
        for make in (lambda: OtherSum(), lambda: TooWide(1), lambda: TooSteep()):
            self.assertRaises(TypeError, make)


if __name__ == "__main__":
    unittest.main()

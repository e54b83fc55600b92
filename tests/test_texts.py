"""Sorts of values, and their written forms."""

import unittest

from restkeepers.errors import InvalidSort, InvalidValue
from restkeepers.rooms import Room
from restkeepers.texts import is_of_sort, sorts, written
from tests.cases import Case
from tests.listing import tuples
from tests.reckon import PRIMES, unit
from tests.sorting import NO_SORTS, SORTS, no_values, otherwise, plain_sort, values_of


class Sorts(Case):

    def test_their_words(self):
        self.same(self.told(sorts), SORTS)
        sorts().clear()
        self.same(sorts(), SORTS)

    def test_values_of_every_sort(self):
        for sort in SORTS:
            for value, _ in values_of(sort):
                self.assertIs(self.told(is_of_sort, sort=sort, value=value), True)
                for other in SORTS:
                    self.judged(plain_sort(other, value), value, is_of_sort, other, value)

    def test_values_of_any_kind(self):
        for value in no_values():
            for sort in SORTS:
                self.judged(plain_sort(sort, value), value, is_of_sort, sort, value)

    def test_one_thing_otherwise(self):
        for sort in SORTS[1:]:
            for at, (value, _) in enumerate(values_of(sort)):
                if at % 3 == 0:
                    for other in otherwise(value):
                        self.judged(plain_sort(sort, other), other, is_of_sort, sort, other)


class Written(Case):

    def test_values_of_every_sort(self):
        for sort in SORTS:
            for value, text in values_of(sort):
                self.same(self.told(written, sort=sort, value=value), text)

    def test_lines(self):
        for sort, value, lines in [
                ("room", Room(5, [[1, 2], [2, 0]]), ["room 5", "line 1 2", "line 2 0"]), ("room", Room(13, ()), ["room 13"]),
                ("row", (3, [1, 0]), ["row 3 1 0"]), ("row", (7, ()), ["row 7"]), ("row", (13, (12, 10, 0)), ["row 13 12 10 0"]),
                ("table", (7, []), ["table 7"]), ("table", (11, ((10,),)), ["table 11", "line 10"]),
                ("part", (3, 2, [[1, 2]]), ["part 3 2", "line 1 2"]), ("part", (3, 0, ()), ["part 3 0"]),
                ("part", (5, 2, tuples(unit(2))), ["part 5 2", "line 1 0", "line 0 1"]),
                ("kind", (2, 1, -1), ["kind 2 1 -1"]), ("kind", (0, 6, 1, 3), ["kind 0 6 1 3"]),
                ("bar", ("between", 0, 1), ["bar between 0 1"]), ("bar", ("lost", [1, 2]), ["bar lost 1 2"]),
                ("bar", ("still", (0, 12)), ["bar still 0 12"])]:
            self.same(written(sort, value), "".join(line + "\n" for line in lines))

    def test_written_forms_are_single(self):
        for sort in SORTS:
            found = {}
            for value, text in values_of(sort):
                if sort == "room":
                    self.assertEqual(found.setdefault(text, value), value)
                else:
                    plain = repr(value).replace("[", "(").replace("]", ")").replace(",)", ")")
                    self.assertEqual(found.setdefault(text, plain), plain)
            self.assertEqual(len(found), len(set(map(repr, found.values()))))


class Refused(Case):

    def test_sort(self):
        for sort in NO_SORTS:
            for value in [(3, []), (2, 1, 1), None]:
                for function in (is_of_sort, written):
                    self.refused(InvalidSort, sort, function, sort, value)
                    self.refused(InvalidSort, sort, function, value=value, sort=sort)

    def test_value(self):
        for sort in SORTS:
            for value in no_values():
                if not plain_sort(sort, value):
                    self.refused(InvalidValue, value, written, sort, value)
                    self.refused(InvalidValue, value, written, value=value, sort=sort)

    def test_one_thing_otherwise(self):
        for sort in SORTS[1:]:
            for at, (value, _) in enumerate(values_of(sort)):
                if at % 9 == 0:
                    for other in otherwise(value):
                        if not plain_sort(sort, other):
                            self.refused(InvalidValue, other, written, sort, other)

    def test_named_ones(self):
        for sort, value in [("row", (3, [3])), ("row", (3, [True])), ("row", (9, [])), ("row", [3, []]), ("row", (3, [0] * 7)),
                            ("table", (3, [[0, 0]])), ("table", (3, [[0], [0]])), ("table", (3, [[0] * 7] * 7)),
                            ("part", (3, 2, [[2, 1]])), ("part", (3, 7, [])), ("part", (3, 2, [[1, 0], [1, 0]])),
                            ("kind", (7, 1, 1)), ("kind", (1, 7, 1)), ("kind", (1, 1, 0)), ("kind", [1, 1, 1]),
                            ("bar", ("between", 1, 0)), ("bar", ("between", 0, 6)), ("bar", ("lost", [0, 0])),
                            ("bar", ("lost", [])), ("bar", ("still", [1] * 7)), ("bar", ["between", 0, 0]),
                            ("room", (3, [[1]])), ("room", "room 3\n"), ("room", None)]:
            self.refused(InvalidValue, value, written, sort, value)
        for prime in PRIMES:
            self.refused(InvalidValue, (prime, [[prime]]), written, "table", (prime, [[prime]]))


if __name__ == "__main__":
    unittest.main()

"""Images of parts, maps that go on, and bars."""

import unittest

from restkeepers.errors import InvalidImages, InvalidPart, InvalidRoom, InvalidTable
from restkeepers.keeping import is_keeper
from restkeepers.maps import bar, goes_on, images_by, is_bar
from restkeepers.rooms import Room
from tests import listing, reckon
from tests.cases import Case
from tests.listing import no_images, no_parts, some_part, tuples
from tests.mapping import NO_BARS, bar_forms, is_plain_bar, led, mixed_keeper, other_images
from tests.reckon import PRIMES, Numbers, all_rows, mixed, no_rooms, no_tables, room_samples, symmetric_tables, unit

SIZES = range(7)
PAIR_AND_STILL = ((0, 1, 0), (1, 0, 0), (0, 0, 0))


class MapCase(Case):

    def check(self, room, part, images, told=True):
        """What is told of the map has the properties of [52]: its bar, None if it goes on."""
        ask = self.told if told else (lambda function, **named: function(**named))
        got = ask(bar, room=room, part=part, images=images)
        self.assertIs(ask(goes_on, room=room, part=part, images=images), got is None)
        if got is None:
            if room.prime ** len(part) < 60:
                for value in bar_forms(room.prime, len(part)):
                    self.assertFalse(is_plain_bar(room.prime, room.rows(), part, images, value), value)
        else:
            self.assertIs(type(got), tuple)
            self.assertIs(type(got[0]), str)
            if got[0] == "between":
                self.assertTrue(len(got) == 3 and reckon.plain_kind(got[1:]))
                self.assertTrue(0 <= got[1] <= got[2] < len(part))
            else:
                self.assertTrue(len(got) == 2 and type(got[1]) is list and reckon.plain_kind(tuple(got[1])))
                self.assertEqual(len(got[1]), len(part))
                self.assertTrue(all(0 <= rest < room.prime for rest in got[1]))
            self.assertTrue(is_plain_bar(room.prime, room.rows(), part, images, got), got)
            self.assertIs(ask(is_bar, room=room, part=part, images=images, value=got), True)
        return got


class ImagesBy(Case):

    def test_all_sizes(self):
        for prime in PRIMES:
            for size in SIZES:
                numbers, room = Numbers(size), Room(prime, room_samples(prime, size)[size // 2])
                for many in range(size + 1):
                    part = some_part(numbers, prime, size, many)
                    for table in [numbers.table(prime, size), unit(size), [[0] * size] * size]:
                        got = self.told(images_by, room=room, part=part, table=table)
                        self.same(got, led(prime, part, table))
                        self.same(images_by(room, tuples(part), tuples(table)), got)
                        images_by(room, part, table).append("more")
                        self.same(images_by(room, part, table), got)

    def test_the_idle_table_and_the_whole_room(self):
        for prime in PRIMES:
            for size in SIZES:
                room, table = Room(prime, unit(size)), Numbers(prime).table(prime, size)
                part = some_part(Numbers(1), prime, size, size // 2)
                self.same(images_by(room, part, unit(size)), part)
                self.same(images_by(room, unit(size), table), [tuple(row) for row in table])
                self.same(images_by(room, [], table), [])


class AgainstKeepers(MapCase):

    def against(self, prime, table, steps):
        """Each part of the room, with images of all kinds: of a part of size k one in as many as the steps tell."""
        room, size = Room(prime, table), len(table)
        found = listing.keepers(prime, table)
        for part in listing.parts(prime, size):
            reached = {tuple(led(prime, part, keeper)) for keeper in found}
            lists = reckon.product(all_rows(prime, size), repeat=len(part))
            for images in list(lists)[::steps[len(part)]] + sorted(reached)[::steps[len(part)]]:
                got = self.check(room, part, images, told=False)
                self.assertIs(got is None, tuple(images) in reached, (table, part, images))

    def test_by_three(self):
        for size in (0, 1, 2):
            for table in symmetric_tables(3, size):
                self.against(3, tuples(table), (1, 1, 1))

    def test_size_three(self):
        for table in [unit(3), PAIR_AND_STILL, ((1, 0, 0), (0, 1, 0), (0, 0, 0)), ((1, 1, 1), (1, 1, 1), (1, 1, 1)),
                      ((0, 0, 0), (0, 0, 0), (0, 0, 0)), ((2, 1, 0), (1, 1, 0), (0, 0, 1))]:
            self.against(3, table, (1, 1, 23, 397))

    def test_other_primes(self):
        for prime, step in [(5, 3), (7, 19), (11, 97), (13, 149)]:
            for table in [unit(2), ((0, 1), (1, 0)), ((1, 0), (0, 0)), ((0, 0), (0, 2)), ((1, 2), (2, 4))]:
                self.against(prime, table, (1, step // 4 + 1, step))


class AllSizes(MapCase):

    def test_images_by_keepers(self):
        for prime in PRIMES:
            for size in SIZES:
                for seed, table in enumerate(room_samples(prime, size)[::2]):
                    room, keeper = Room(prime, table), mixed_keeper(prime, table, seed)
                    self.assertIs(is_keeper(room, keeper), True)
                    for many in range(size + 1):
                        part = some_part(Numbers(seed), prime, size, many)
                        images = images_by(room, part, keeper)
                        self.assertIsNone(self.check(room, part, images, told=many == 2))
                        self.assertIs(goes_on(room, tuples(part), tuples(images)), True)
                        for value in [("between", 0, 0), ("lost", [1] * many), ("still", [1] + [0] * (many - 1))]:
                            self.judged(False, value, is_bar, room, part, images, value)

    def test_images_that_are_otherwise_in_one_thing(self):
        for prime in PRIMES:
            for size in SIZES:
                for seed, table in enumerate(room_samples(prime, size)[::5]):
                    room, keeper = Room(prime, table), mixed_keeper(prime, table, seed)
                    for many in {min(1, size), min(2, size), size - 1 if size else 0, size}:
                        part = some_part(Numbers(seed + 1), prime, size, many)
                        for images in other_images(prime, table, led(prime, part, keeper), seed):
                            self.check(room, part, images, told=False)
                            for value in [("between", many - 1, many - 1), ("lost", [1] * many), ("still", [2] * many)]:
                                if many:
                                    wanted = is_plain_bar(prime, table, part, images, value)
                                    self.judged(wanted, value, is_bar, room, part, images, value)

    def test_the_empty_part(self):
        for prime in PRIMES:
            for size in SIZES:
                for table in room_samples(prime, size):
                    self.assertIsNone(self.check(Room(prime, table), [], ()))
                    for value in NO_BARS:
                        self.judged(False, value, is_bar, Room(prime, table), (), [], value)


class OnlyBars(MapCase):

    def test_between_alone(self):
        for prime in PRIMES:
            for size in range(1, 7):
                room, odd = Room(prime, unit(size)), unit(size)[0]
                other = [2] + [0] * (size - 1)
                if prime != 3:
                    self.same(self.check(room, [odd], [other]), ("between", 0, 0))
                if size > 1:
                    self.same(self.check(room, [odd], [(1,) * 2 + (0,) * (size - 2)]), ("between", 0, 0))
                    part = list(unit(size))[:2]
                    # Both worths are kept, what is between is not.
                    table = [[1 if (i, j) in ((0, 1), (1, 0)) else 0 for j in range(size)] for i in range(size)]
                    images = [part[0], [2 * rest for rest in part[1]]]
                    self.same(self.check(Room(prime, table), part, images), ("between", 0, 1))
        self.same(bar(Room(3, unit(3)), [(1, 1, 1)], [(1, 0, 0)]), ("between", 0, 0))

    def test_lost_alone(self):
        for prime in PRIMES:
            for size in range(1, 7):
                room, part = Room(prime, [[0] * size] * size), list(unit(size))
                got = self.check(room, part[:1], [[0] * size])
                self.assertEqual(got[0], "lost")
                if size > 1:
                    got = self.check(room, part, part[:-1] + [part[0]])
                    self.assertEqual(got[0], "lost")
                    self.assertIs(is_bar(room, part, part[:-1] + [part[0]],
                                         ("lost", (1,) + (0,) * (size - 2) + (prime - 1,))), True)
                    got = self.check(room, part, part[1:] + [mixed(prime, size, [2] * (size - 1), part[1:])])
                    self.assertEqual(got[0], "lost")

    def test_still_alone(self):
        for prime in PRIMES:
            room = Room(prime, PAIR_AND_STILL)
            for part, images in [([(1, 0, 0)], [(0, 0, 1)]), ([(0, 1, 0)], [(0, 0, 2)]), ([(0, 0, 1)], [(1, 0, 0)]),
                                 ([(0, 0, 1)], [(0, 2, 1)]), ([(1, 0, 0), (0, 0, 1)], [(0, 0, 1), (1, 0, 0)])]:
                got = self.check(room, part, images)
                self.assertEqual(got[0], "still")
                for form in bar_forms(prime, len(part)):
                    wanted = is_plain_bar(prime, PAIR_AND_STILL, part, images, form)
                    self.judged(wanted, form, is_bar, room, part, images, form)
                    self.assertFalse(wanted and form[0] != "still")

    def test_still_by_a_sum_alone(self):
        # No row of the part and no image is still, a sum of them is.
        for prime in PRIMES:
            table = [[0] * 5 for _ in range(5)]
            table[0][1] = table[1][0] = table[2][3] = table[3][2] = 1
            room = Room(prime, table)
            part, images = [(1, 0, 0, 0, 0), (0, 0, 1, 0, 0)], [(1, 0, 0, 0, 0), (1, 0, 0, 0, 1)]
            self.assertEqual(self.check(room, part, images)[0], "still")
            back = [(1, 0, 0, 0, 0), (0, 0, 0, 0, 1)]
            self.assertEqual(self.check(room, back, [(1, 0, 0, 0, 0), (1, 0, 1, 0, 0)])[0], "still")
            self.assertIsNone(self.check(room, back, [(0, 0, 3 % prime or 1, 0, 2), (0, 0, 0, 0, 2)]))

    def test_without_still_rows_the_third_mark_says_nothing_beside_the_first(self):
        for prime, table in [(3, unit(2)), (3, ((0, 1), (1, 0))), (5, unit(2))]:
            for part in listing.parts(prime, 2):
                for images in list(reckon.product(all_rows(prime, 2), repeat=len(part)))[::3]:
                    forms = [form for form in bar_forms(prime, len(part))
                             if is_plain_bar(prime, table, part, images, form)]
                    for form in forms:
                        if form[0] == "still":
                            self.assertIn(("lost", form[1]), forms)


class IsBar(MapCase):

    def test_all_forms_of_small_maps(self):
        for prime, table in [(3, unit(2)), (3, PAIR_AND_STILL), (5, ((1, 0), (0, 0))), (3, ((1, 1, 1),) * 3)]:
            size, room, numbers = len(table), Room(prime, table), Numbers(prime)
            for part in listing.parts(prime, size):
                for _ in range(3):
                    images = numbers.rows(prime, size, len(part))
                    for value in bar_forms(prime, len(part)):
                        wanted = is_plain_bar(prime, table, part, images, value)
                        self.judged(wanted, value, is_bar, room, part, images, value)
                        self.judged(False, list(value), is_bar, room, part, images, list(value))
                        if value[0] != "between":
                            other = (value[0], tuple(value[1]))
                            self.judged(wanted, other, is_bar, room, part, images, other)
                            for word in ("between", "", "Lost", 0, None):
                                self.judged(False, word, is_bar, room, part, images, (word, value[1]))

    def test_values_of_any_kind(self):
        for prime in PRIMES:
            for size in range(1, 7):
                room, still = Room(prime, unit(size)), Room(prime, [[0] * size] * size)
                for many in {1, size}:
                    part = list(unit(size))[:many]
                    for value in NO_BARS:
                        self.judged(False, value, is_bar, room, part, part, value)
                        self.judged(False, value, is_bar, still, part, part, value)
                        self.assertIs(type(is_bar(room, part, [[0] * size] * many, value)), bool)
                    for value in [("between", many, many), ("between", 0, many), ("between", many - 1, many)]:
                        self.judged(False, value, is_bar, room, part, [[0] * size] * many, value)

    def test_one_thing_otherwise(self):
        room, part, images = Room(5, unit(3)), [(1, 0, 0), (0, 1, 0)], [(1, 1, 0), (2, 2, 0)]
        for value in [("between", 0, 0), ("between", 0, 1), ("between", 1, 1), ("lost", [3, 1]), ("lost", (1, 2)),
                      ("still", [3, 1]), ("still", (4, 3))]:
            self.assertIs(self.told(is_bar, room=room, part=part, images=images, value=value), True)
        for value in [("between", 1, 0), ("between", 0, True), ("between", False, 1), ("between", False, 0),
                      ("between", True, True), ("between", 1, 2), ("between", -1, 0), ("lost", [3, True]),
                      ("lost", [8, 1]), ("lost", [-2, 1]), ("lost", [3, 1, 0]), ("lost", [3]), ("lost", [0, 0]),
                      ("lost", [3, 2]), ("still", [0, 0]), ("still", [True, 2]), ("still", [1, 1]), ["lost", [3, 1]],
                      ["between", 0, 0], ("lost", 3, 1), ("between", [0, 1]), ("between", [3, 1]), ("lost", {0: 3, 1: 1}),
                      ("lost", "31"), (("lost", [3, 1]),), ("lose", [3, 1]), ("lost", [[3], [1]]), ("lost", [3, None])]:
            self.assertIs(self.told(is_bar, room=room, part=part, images=images, value=value), False)

    def test_positions_that_bar_behind_another_word(self):
        for prime in PRIMES:
            room, part, images = Room(prime, unit(2)), [(1, 0), (0, 1)], [(0, 0), (1, 0)]
            self.judged(True, "between", is_bar, room, part, images, ("between", 0, 0))
            for word in ("lost", "still", "betweens", "Between", "", None, 0, True, ("between",), b"between"):
                self.judged(False, word, is_bar, room, part, images, (word, 0, 0))
            for value in [("between", 0, 0, 0), ("between", 0), (0, 0, "between"), ("between", (0, 0))]:
                self.judged(False, value, is_bar, room, part, images, value)

    def test_told_rests_are_new(self):
        room, part, images = Room(3, [[0, 0], [0, 0]]), [(1, 0), (0, 1)], [(1, 1), (1, 1)]
        bar(room, part, images)[1].append(0)
        self.same(bar(room, part, images)[0], "lost")
        self.same(len(bar(room, part, images)[1]), 2)


class Refused(Case):

    def test_room(self):
        for value in no_rooms(3):
            for one in [[], None]:
                self.refused(InvalidRoom, value, images_by, value, one, None)
                self.refused(InvalidRoom, value, images_by, table=None, part=one, room=value)
                for function in (goes_on, bar):
                    self.refused(InvalidRoom, value, function, value, one, None)
                    self.refused(InvalidRoom, value, function, images=one, part=None, room=value)
                self.refused(InvalidRoom, value, is_bar, value, one, one, None)
                self.refused(InvalidRoom, value, is_bar, value=None, images=None, part=one, room=value)

    def test_parts(self):
        for prime in (3, 13):
            for size in SIZES:
                room = Room(prime, unit(size))
                for value in no_parts(prime, size):
                    self.refused(InvalidPart, value, images_by, room, value, None)
                    self.refused(InvalidPart, value, goes_on, room, value, value)
                    self.refused(InvalidPart, value, bar, images=[], part=value, room=room)
                    self.refused(InvalidPart, value, is_bar, room, value, None, ("between", 0, 0))

    def test_tables(self):
        for prime in (3, 13):
            for size in SIZES:
                room, part = Room(prime, unit(size)), list(unit(size))[:1]
                for value in no_tables(prime, size):
                    self.refused(InvalidTable, value, images_by, room, part, value)
                    self.refused(InvalidTable, value, images_by, table=value, part=[], room=room)

    def test_images(self):
        for prime in (3, 13):
            for size in SIZES:
                for many in range(size + 1):
                    room, part = Room(prime, unit(size)), list(unit(size))[:many]
                    for value in no_images(prime, size, many):
                        for function in (goes_on, bar):
                            self.refused(InvalidImages, value, function, room, part, value)
                            self.refused(InvalidImages, value, function, images=value, part=part, room=room)
                        self.refused(InvalidImages, value, is_bar, room, part, value, ("between", 0, 0))
                        self.refused(InvalidImages, value, is_bar, value=None, images=value, part=part, room=room)


if __name__ == "__main__":
    unittest.main()

"""The whole program: what the files tell of one room agrees."""

import unittest

from restkeepers.beside import beside, scaled, taken_off
from restkeepers.claims import contrary, is_paper_of, is_true, paper_of
from restkeepers.desk import Desk
from restkeepers.frames import a_frame, frame_count, frames, is_frame
from restkeepers.going import continues, keeper_on, leads_part, part_lead
from restkeepers.keeping import bend, is_keeper, is_lead, is_still, right_angles
from restkeepers.kinds import alike_parts, is_kind, kinds, part_by, part_kind
from restkeepers.likeness import alike, lead
from restkeepers.maps import bar, goes_on, images_by, is_bar
from restkeepers.noughts import greatest_nought, is_greatest, is_nought, nought_row, nought_size
from restkeepers.pairs import is_pair_rows, pair_count, pair_rows
from restkeepers.partcounts import fixing_count, holding_count, keeper_count, part_count, parts_with
from restkeepers.parts import meeting, own_room, part_of, still_in, sum_of
from restkeepers.plain import kind_of, plain_by, plain_lead, plain_room, squares_lead
from restkeepers.readers import read
from restkeepers.rooms import Room
from restkeepers.rowcounts import row_count, rows_of, worth_counts
from restkeepers.steps import rank, steps
from restkeepers.tables import idle, times, undone
from restkeepers.texts import written
from tests.cases import Case
from tests.desking import as_row, spaced
from tests.listing import plain_rooms, some_part
from tests.mapping import mixed_keeper
from tests.reckon import PRIMES, Numbers, led_room


def rooms():
    """A room of each kind, by all primes, that looks mixed."""
    for prime in PRIMES:
        for size in range(7):
            for seed, room in enumerate(plain_rooms(prime, size)):
                yield seed + size, Room(prime, led_room(prime, room.rows(), Numbers(seed).undone(prime, size)))


class Whole(Case):

    def test_rooms_and_their_plain_rooms(self):
        for seed, room in rooms():
            kind, plain = kind_of(room), plain_room(room)
            self.assertEqual((kind[:2], kind_of(plain)), ((room.size, room.rank), kind))
            self.assertEqual(plain, plain_by(room.prime, kind))
            self.assertEqual(len(room.still()), room.size - room.rank)
            self.assertTrue(all(is_still(room, row) for row in room.still()))
            self.assertTrue(alike(room, plain) and is_lead(plain, room, plain_lead(room)))
            self.assertTrue(is_lead(room, plain, lead(room, plain)))
            self.assertEqual(kind_of(room.led(squares_lead(room))), kind)
            keeper = times(room.prime, lead(room, plain), lead(plain, room))
            self.assertTrue(is_keeper(room, keeper) and is_keeper(room, undone(room.prime, keeper)))
            self.assertIsNone(bend(room, keeper))
            self.assertEqual(read(written("room", room)), ("room", room))
            self.assertEqual(read(written("kind", kind)), ("kind", kind))
            self.assertEqual(read(written("table", (room.prime, keeper))), ("table", (room.prime, keeper)))

    def test_counts(self):
        for seed, room in rooms():
            prime, still = room.prime, room.prime ** (room.size - room.rank)
            counts = worth_counts(room)
            self.assertEqual(sum(counts), prime ** room.size)
            # A row that is not still is a frame with its worth as its mate.
            self.assertEqual([frame_count(room, [[rest]]) for rest in range(prime)], [counts[0] - still] + counts[1:])
            self.assertEqual(counts, worth_counts(plain_room(room)))
            if prime ** room.size <= 700:
                self.assertEqual([len(rows_of(room, rest)) for rest in range(prime)], counts)
            if room.rank == room.size:
                self.assertEqual(frame_count(room, room.rows()), keeper_count(room))
            self.assertEqual(keeper_count(room), keeper_count(plain_room(room)))
            doubled = scaled(room, 2)
            self.assertEqual([row_count(doubled, 2 * rest % prime) for rest in range(prime)], counts)
            self.assertEqual(keeper_count(doubled), keeper_count(room))

    def test_parts_and_maps(self):
        for seed, room in rooms():
            numbers, prime, size = Numbers(seed), room.prime, room.size
            for many in range(size + 1):
                if (many + seed) % 3 and size > 2:
                    continue
                part = some_part(numbers, prime, size, many)
                kind, own = part_kind(room, part), own_room(room, part)
                self.assertEqual((kind[:3], kind[3]), (kind_of(own), len(still_in(room, part))))
                self.assertTrue(is_kind(room, kind) and kind in kinds(room))
                keeper = mixed_keeper(prime, room.rows(), seed)
                images = images_by(room, part, keeper)
                other = part_of(room, images)
                self.assertTrue(goes_on(room, part, images) and alike_parts(room, part, other))
                self.assertTrue(continues(room, part, images, keeper) and continues(room, part, images, keeper_on(room, part, images)))
                self.assertTrue(leads_part(room, part, other, keeper) and leads_part(room, part, other, part_lead(room, part, other)))
                like = part_by(room, kind)
                self.assertTrue(leads_part(room, part, like, part_lead(room, part, like)))
                self.assertEqual(len(sum_of(room, part, like)) + len(meeting(room, part, like)), 2 * many)
                self.assertEqual(holding_count(room, part) * part_count(room, kind), keeper_count(room))
                self.assertEqual(holding_count(room, part) % fixing_count(room, part), 0)
                if kind[3] == 0:
                    self.assertEqual(frame_count(room, own.rows()), part_count(room, kind) * keeper_count(own))
                    self.assertTrue(is_frame(room, own.rows(), part) and is_frame(room, own.rows(), a_frame(room, own.rows())))
                if many:
                    images[-1] = (0,) * size
                    self.assertTrue(is_bar(room, part, images, bar(room, part, images)))
                    self.assertIsNone(keeper_on(room, part, images))
                self.assertEqual(read(written("part", (prime, size, part))), ("part", (prime, size, part)))

    def test_small_rooms_in_lists(self):
        for seed, room in rooms():
            if room.prime ** room.size <= 125:
                there = [part for kind in kinds(room) for part in parts_with(room, kind)]
                self.assertEqual(sum(part_count(room, kind) for kind in kinds(room)), len(there))
                greatest = [part for part in there if is_greatest(room, part)]
                self.assertEqual(greatest, parts_with(room, (nought_size(room), 0, 1, room.size - room.rank)))
                if room.rank == room.size and keeper_count(room) <= 400:
                    self.assertTrue(all(is_keeper(room, frame) for frame in frames(room, room.rows())))

    def test_noughts_and_pairs(self):
        for seed, room in rooms():
            pairs, rest, still = pair_rows(room)
            self.assertTrue(is_pair_rows(room, (pairs, rest, still)))
            self.assertEqual([len(pairs), len(pairs) + len(still), still], [pair_count(room), nought_size(room), room.still()])
            part = greatest_nought(room, [])
            self.assertTrue(is_greatest(room, part) and is_nought(room, part))
            self.assertEqual(part_kind(room, part), (nought_size(room), 0, 1, len(still)))
            self.assertEqual(nought_row(room) is None, row_count(room, 0) == room.prime ** len(still))
            firsts = [first for first, _ in pairs]
            self.assertTrue(is_greatest(room, part_of(room, firsts + still)))
            self.assertEqual(len(part_by(room, part_kind(room, part))), len(part))
            angles = right_angles(room, firsts)
            self.assertEqual(len(angles), room.size - len(firsts))
            self.assertEqual(rank(room.prime, room.size, angles + [second for _, second in pairs]), room.size)
            self.assertEqual(steps(room.prime, room.size, angles), angles)

    def test_side_by_side(self):
        for seed, room in rooms():
            for other in plain_rooms(room.prime, 6 - room.size)[::2]:
                both = beside(room, other)
                self.assertEqual(taken_off(both, room), plain_room(other))
                self.assertEqual(taken_off(both, other), plain_room(room))
                self.assertTrue(alike(both, beside(other, room)))
                part = list(idle(both.size))[:room.size]
                self.assertEqual(own_room(both, part), room)

    def test_claims_and_the_desk(self):
        for seed, room in list(rooms())[::2]:
            numbers, prime, size = Numbers(seed), room.prime, room.size
            part = some_part(numbers, prime, size, size // 2)
            images = images_by(room, part, mixed_keeper(prime, room.rows(), seed))
            other, table = part_of(room, images), numbers.table(prime, size)
            desk = Desk()
            for name, word, rows in [("v", "room", room.rows()), ("p", "rows", part), ("i", "rows", images), ("q", "rows", other),
                                     ("t", "table", table)]:
                desk(" ".join([word, name, str(prime)] + [as_row(row) for row in rows]))
            desk("plainof w v")
            self.assertEqual([desk[name] for name in "vpiqtw"], [room, part, images, other, tuple(map(tuple, table)), plain_room(room)])
            for line, wanted in [("kind v", kind_of(room)), ("partkind v p", part_kind(room, part)), ("worths v", worth_counts(room))]:
                self.assertEqual(desk(line), spaced(wanted))
            for line, wanted in [("keepers v", keeper_count(room)), ("fixing v p", fixing_count(room, part)), ("holding v p", holding_count(room, part)),
                                 ("noughts v", nought_size(room)), ("pairs v", pair_count(room)), ("rowcount v 1", row_count(room, 1)),
                                 ("partcount v " + spaced(part_kind(room, part)), part_count(room, part_kind(room, part)))]:
                self.assertEqual(desk(line), str(wanted))
            for label, line in [("a", "alike v w"), ("b", "keeps v t"), ("c", "goes v p i"), ("d", "nought v p"), ("e", "led v p q"),
                                ("f", "goes v p p"), ("g", "apart v q p")]:
                answer = desk(f"claim {label} {line}")
                claim = desk.claim_of(label)
                self.assertEqual(answer, f"{label} {'true' if is_true(claim) else 'false'}")
                true = claim if is_true(claim) else contrary(claim)
                paper = paper_of(true)
                if paper is not None:
                    desk.attach(label, paper)
                    self.assertTrue(desk.fits(label) and is_paper_of(true, paper))
            self.assertEqual([desk("state " + label) for label in "acefg"], ["true"] * 4 + ["false"])
            for line, made in [("keeper k v p i", keeper_on(room, part, images)), ("partlead l v p q", part_lead(room, part, other)),
                               ("lead m v w", lead(room, plain_room(room)))]:
                desk(line)
                self.assertEqual(desk[line.split(" ")[1]], made)
            again = Desk.again(desk.lines())
            self.assertEqual([again("states"), again("names"), len(again)], [desk("states"), desk("names"), len(desk)])


if __name__ == "__main__":
    unittest.main()

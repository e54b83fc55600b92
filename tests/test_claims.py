"""Claims, their contraries, and their papers."""

import unittest

from restkeepers.claims import contrary, is_claim, is_paper_of, is_true, paper_of, words
from restkeepers.errors import InvalidClaim
from restkeepers.rooms import Room
from tests import mapping
from tests.cases import Case
from tests.claiming import (LINES, OTHER, claims_about, great_claim_rooms, no_claims, paper_edits, plain_claim, plain_paper,
                            plain_truth, small_claim_rooms)
from tests.listing import keepers, parts, tuples, undone_tables
from tests.reckon import NO_KIND, PRIMES, all_rows, unit

WITHOUT_PAPERS = ("keeps", "nought")


class Words(Case):

    def test_all_ten(self):
        self.same(self.told(words), LINES)
        words().clear()
        self.same(words(), LINES)


class IsClaim(Case):

    def test_claims_about_all_rooms(self):
        for seed, room in enumerate(small_claim_rooms() + great_claim_rooms()):
            for claim in claims_about(room, seed):
                self.judged(True, claim, is_claim, claim)
                self.judged(False, claim, is_claim, list(claim))
                self.judged(False, claim, is_claim, claim[:-1])
                self.judged(False, claim, is_claim, claim + claim[-1:])
                self.judged(False, claim, is_claim, claim[1:])

    def test_values_of_any_kind(self):
        for value in no_claims():
            self.judged(False, value, is_claim, value)
            self.assertIs(is_claim(value=value), False)

    def test_one_thing_otherwise(self):
        for seed, room in enumerate(small_claim_rooms()[::5]):
            for claim in claims_about(room, seed)[::3]:
                for at in range(len(claim)):
                    for other in paper_edits(claim[at]) + [room, Room(5 if room.prime == 3 else 3, room.size * [[0] * room.size])]:
                        value = claim[:at] + (other,) + claim[at + 1:]
                        self.judged(plain_claim(value), value, is_claim, value)

    def test_words_with_the_parts_of_others(self):
        for seed, room in enumerate(small_claim_rooms()[::7]):
            for claim in claims_about(room, seed):
                for word in OTHER:
                    value = (word,) + claim[1:]
                    self.judged(plain_claim(value), value, is_claim, value)


class Truth(Case):

    def test_small_rooms(self):
        for seed, room in enumerate(small_claim_rooms()):
            for claim in claims_about(room, seed):
                wanted = plain_truth(claim)
                self.assertIs(self.told(is_true, claim=claim), wanted)
                self.assertIs(is_true(contrary(claim)), not wanted)

    def test_great_rooms(self):
        for seed, room in enumerate(great_claim_rooms()):
            found = claims_about(room, seed)
            self.assertEqual({is_true(claim) for claim in found}, {True, False})
            for claim in found:
                self.assertIs(is_true(contrary(claim)), not is_true(claim))
            # What a keeper does goes, and leads.
            keeper = mapping.mixed_keeper(room.prime, room.rows(), seed)
            self.assertIs(is_true(("keeps", room, keeper)), True)

    def test_named_ones(self):
        flat, turned = Room(3, [[1, 0], [0, 1]]), Room(3, [[1, 0], [0, 2]])
        still = Room(3, [[0, 1, 0], [1, 0, 0], [0, 0, 0]])
        for claim, wanted in [(("alike", flat, turned), False), (("unlike", flat, turned), True), (("alike", flat, flat), True),
                              (("alike", Room(7, ()), Room(7, ())), True), (("keeps", flat, [[0, 0], [0, 0]]), False),
                              (("keeps", Room(5, ((0,),)), [[0]]), True), (("keeps", flat, ((0, 1), (1, 0))), True),
                              (("goes", flat, [[1, 0]], [[0, 2]]), True), (("barred", flat, [[1, 0]], [[1, 1]]), True),
                              (("goes", still, [(1, 0, 0)], [(0, 0, 1)]), False), (("goes", still, [], []), True),
                              (("nought", turned, [[1, 1]]), True), (("worthy", turned, [[1, 0]]), True),
                              (("nought", flat, []), True), (("led", flat, [[1, 0]], [[1, 1]]), False),
                              (("led", still, [(1, 0, 0)], [(0, 0, 1)]), False), (("apart", still, [(0, 1, 0)], [(0, 0, 1)]), True),
                              (("led", still, [(1, 0, 0)], [(0, 1, 2)]), True), (("apart", flat, [], [(1, 0)]), True)]:
            self.judged(wanted, claim, is_true, claim)
            self.judged(not wanted, claim, is_true, contrary(claim))


class Contrary(Case):

    def test_other_word_and_same_parts(self):
        for seed, room in enumerate(small_claim_rooms() + great_claim_rooms()):
            for claim in claims_about(room, seed):
                got = self.told(contrary, claim=claim)
                self.same(got, (OTHER[claim[0]],) + claim[1:])
                self.assertIs(type(got), tuple)
                self.same(contrary(got), claim)
                self.judged(True, got, is_claim, got)

    def test_lists_are_new(self):
        room = Room(3, unit(2))
        part, images = [[1, 0]], [[0, 1]]
        for claim in [("goes", room, part, images), ("keeps", room, [[1, 0], [0, 1]]), ("led", room, part, part),
                      ("nought", room, ([1, 0],))]:
            got, kept = contrary(claim), repr(claim)
            for one, other in zip(got[2:], claim[2:]):
                if type(one) is list:
                    self.assertIsNot(one, other)
                for row in one:
                    row.append(1)
                if type(one) is list:
                    one.clear()
            self.assertEqual(repr(claim), kept)


class Papers(Case):

    def check(self, claim, true):
        """The paper of a claim is there exactly if it is true and its kind has one; it is let for the claim alone."""
        got, other = paper_of(claim), contrary(claim)
        self.assertEqual(got is not None, true and claim[0] not in WITHOUT_PAPERS)
        self.assertIs(is_paper_of(claim, None), False)
        if got is not None:
            self.assertIs(is_paper_of(claim, got), True)
            self.assertIs(is_paper_of(value=got, claim=claim), True)
            self.assertIs(is_paper_of(other, got), False)
        return got

    def test_small_rooms(self):
        for seed, room in enumerate(small_claim_rooms()):
            for claim in claims_about(room, seed):
                got = self.check(claim, plain_truth(claim))
                self.same(self.told(paper_of, claim=claim), got)
                if got is not None:
                    self.assertTrue(plain_paper(claim, got))

    def test_great_rooms(self):
        for seed, room in enumerate(great_claim_rooms()):
            for claim in claims_about(room, seed):
                self.check(claim, is_true(claim))

    def test_their_kinds(self):
        for seed, room in enumerate(small_claim_rooms()[::3]):
            for claim in claims_about(room, seed):
                got = paper_of(claim)
                if got is not None:
                    self.assertIs(type(got), tuple)
                    if claim[0] not in ("barred",):
                        self.assertTrue(all(type(one) in (tuple, int) for one in got))
                    elif got[0] != "between":
                        self.assertIs(type(got[1]), list)

    def test_papers_with_one_thing_otherwise(self):
        for seed, room in enumerate(small_claim_rooms()[::3]):
            for at, claim in enumerate(claims_about(room, seed)):
                got = paper_of(claim)
                if got is None or at % 2 == seed % 2:
                    continue
                for value in paper_edits(got):
                    self.judged(plain_paper(claim, value), (claim, value), is_paper_of, claim, value)
                    if at % 5 == 0:
                        other = contrary(claim)
                        self.judged(plain_paper(other, value), (other, value), is_paper_of, other, value)

    def test_papers_of_other_kinds(self):
        for seed, room in enumerate(small_claim_rooms()[::6]):
            found = claims_about(room, seed)
            papers = [paper for paper in map(paper_of, found) if paper is not None][::3] + [tuples(unit(room.size))]
            for claim in found[::2]:
                for value in papers:
                    self.judged(plain_paper(claim, value), (claim, value), is_paper_of, claim, value)

    def test_values_of_any_kind(self):
        for seed, room in enumerate(small_claim_rooms()[::8]):
            for claim in claims_about(room, seed):
                for value in NO_KIND + [0, (0,), (0, 0), (True, True), ((), ()), [[]], ("lost", None), (None, None), room]:
                    self.judged(plain_paper(claim, value), (claim, value), is_paper_of, claim, value)

    def test_all_tables_of_small_rooms(self):
        for prime, table in [(3, ()), (3, ((2,),)), (5, ((0,),)), (3, unit(2)), (3, ((1, 0), (0, 0))), (3, ((0, 1), (1, 0)))]:
            room, size = Room(prime, table), len(table)
            rows = all_rows(prime, size)
            tables = [()] if size == 0 else [(row,) for row in rows] if size == 1 else [(x, y) for x in rows for y in rows]
            some = [part for part in parts(prime, size) if len(part) < 2]
            claims = [("alike", room, room), ("alike", room, Room(prime, unit(size))), ("goes", room, [], []),
                      ("led", room, some[0], some[-1]), ("led", room, some[-1], some[-1]), ("keeps", room, unit(size))]
            claims += [("goes", room, part, [row]) for part in some[1:3] for row in rows[1:6]]
            for claim in claims:
                good = [value for value in tables if is_paper_of(claim, value)]
                self.assertEqual(good, [value for value in tables if plain_paper(claim, value)])
                self.assertEqual(bool(good), is_true(claim) and claim[0] != "keeps")
            listed = sorted(keepers(prime, table))
            self.assertEqual(sorted(value for value in tables if is_paper_of(("goes", room, [], []), value)), listed)
            self.assertEqual(sorted(value for value in undone_tables(prime, size) if is_paper_of(("alike", room, room), value)), listed)

    def test_all_bars_and_bends_of_small_rooms(self):
        for prime, table in [(3, unit(2)), (3, ((1, 0), (0, 0))), (5, ((0, 1), (1, 0))), (3, ((0, 0), (0, 0)))]:
            room, rows = Room(prime, table), all_rows(prime, 2)
            for part in parts(prime, 2):
                forms = mapping.bar_forms(prime, len(part))
                for first in rows[::2]:
                    for claim in [("barred", room, part, [first] * len(part)), ("barred", room, part, [first, rows[1]][:len(part)])]:
                        good = [value for value in forms if is_paper_of(claim, value)]
                        self.assertEqual(good, [value for value in forms if plain_paper(claim, value)])
                        self.assertEqual(bool(good), is_true(claim))
            for first in rows:
                for second in rows:
                    claim = ("bends", room, (first, second))
                    good = [(i, j) for i in range(2) for j in range(2) if is_paper_of(claim, (i, j))]
                    self.assertEqual(good, [value for value in [(0, 0), (0, 1), (1, 1)] if plain_paper(claim, value)])
                    self.assertEqual(bool(good), is_true(claim))

    def test_positions_of_worthy_parts(self):
        for prime in PRIMES:
            room, part = Room(prime, ((0, 1, 0), (1, 0, 0), (0, 0, 2))), unit(3)
            claim = ("worthy", room, part)
            good = [(i, j) for i in range(-1, 4) for j in range(-1, 4) if is_paper_of(claim, (i, j))]
            self.assertEqual(good, [(0, 1), (1, 0), (2, 2)])
            for value in [[0, 1], (False, True), (0, True), (2, 2, 2), (2,), ((0, 1),), (0, "1"), (None, 1), (10 ** 29, 1)]:
                self.judged(False, value, is_paper_of, claim, value)

    def test_kinds_are_tuples_of_integers(self):
        flat, turned = Room(3, [[1, 0], [0, 1]]), Room(3, [[1, 0], [0, 2]])
        claim = ("unlike", flat, turned)
        self.judged(True, None, is_paper_of, claim, ((2, 2, 1), (2, 2, -1)))
        for value in [[(2, 2, 1), (2, 2, -1)], ([2, 2, 1], (2, 2, -1)), ((2, 2, True), (2, 2, -1)), ((2, 2, -1), (2, 2, 1)),
                      ((2, 2, 1),), ((2, 2, 1), (2, 2, -1), (2, 2, 1)), (2, 2, 1), ((2, 2, 1), (2, 2, 1)), (None, None),
                      ((2, 2, 1, 0), (2, 2, -1, 0)), ((2, 2), (2, 2))]:
            self.judged(False, value, is_paper_of, claim, value)
        self.judged(False, None, is_paper_of, ("unlike", flat, flat), ((2, 2, 1), (2, 2, 1)))
        apart = ("apart", flat, [[1, 0]], [[1, 1]])
        self.judged(True, None, is_paper_of, apart, ((1, 1, 1, 0), (1, 1, -1, 0)))
        for value in [((1, 1, True, 0), (1, 1, -1, 0)), ((1, 1, 1, False), (1, 1, -1, 0)), [(1, 1, 1, 0), (1, 1, -1, 0)],
                      ([1, 1, 1, 0], [1, 1, -1, 0]), ((1, 1, 1), (1, 1, -1)), ((1, 1, -1, 0), (1, 1, 1, 0))]:
            self.judged(False, value, is_paper_of, apart, value)
        self.judged(False, None, is_paper_of, ("apart", flat, [], []), ((0, 0, 1, 0), (0, 0, 1, 0)))


class Refused(Case):

    def test_no_claims(self):
        for value in no_claims():
            for function in (is_true, contrary, paper_of):
                self.refused(InvalidClaim, value, function, value)
                self.refused(InvalidClaim, value, function, claim=value)
            for paper in (None, (0, 0)):
                self.refused(InvalidClaim, value, is_paper_of, value, paper)
                self.refused(InvalidClaim, value, is_paper_of, value=paper, claim=value)


if __name__ == "__main__":
    unittest.main()

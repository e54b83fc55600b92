"""A desk as the tests reckon it: each command by the tables of [98], one after the other."""

import re

from restkeepers.beside import beside, scaled, taken_off
from restkeepers.claims import contrary, is_claim, is_paper_of, is_true
from restkeepers.desk import Desk
from restkeepers.errors import (InvalidClaim, InvalidCommand, InvalidPaper, InvalidPlace, InvalidPrime, InvalidRest, InvalidRow,
                                InvalidRows, InvalidTable, LabelTaken, LimitError, MissingError, NameTaken, NoneThere,
                                NothingToRedo, NothingToUndo, RoomError, StateError, TooMany, UnknownLabel, UnknownName)
from restkeepers.frames import frame_count
from restkeepers.going import keeper_on, part_lead
from restkeepers.keeping import right_angles
from restkeepers.kinds import part_by, part_kind
from restkeepers.likeness import lead
from restkeepers.maps import images_by
from restkeepers.noughts import greatest_nought, nought_size
from restkeepers.pairs import pair_count
from restkeepers.partcounts import fixing_count, holding_count, keeper_count, part_count
from restkeepers.parts import meeting, own_room, part_of, sum_of
from restkeepers.plain import kind_of, plain_by, plain_room
from restkeepers.rooms import Room
from restkeepers.rowcounts import row_count, worth_counts
from restkeepers.tables import determinant, idle, times, undone
from tests.cases import Case
from tests.commanding import DEEDS, OTHERS, form_of
from tests.reckon import NO_KIND, PRIMES

OWN = (RoomError, MissingError, StateError, LimitError)
BALL = ["room v 3 1,0,0 0,1,0 0,0,1", "rows p 3 1,1,1", "rows q 3 1,2,1", "table t 3 1,0,0 0,1,0 0,0,2"]
NO_STRINGS = [value for value in NO_KIND if type(value) is not str] + [0, 1, [], ["names"], ("undo",), {"undo": 1}, b"names"]


def seen(desk):
    """All that a desk tells of itself, and what can be done again."""
    lines = []
    other = desk.copy()
    try:
        # No more deeds than these can be taken back.
        for _ in range(301):
            lines.append(other.do("redo"))
    except NothingToRedo:
        pass
    return (desk.names, desk.labels, len(desk), desk.lines(), [desk[name] for name in desk.names], desk.do("states"),
            [desk.claim_of(label) for label in desk.labels], [desk.do("claimed " + label) for label in desk.labels],
            [desk.fits(label) for label in desk.labels], lines)


def made(*lines):
    desk = Desk()
    desk.do_all(*lines)
    return desk


class DeskCase(Case):

    def refuses(self, desk, error, told, line):
        """The desk refuses the line, with what the error tells, and nothing is changed."""
        before = repr(seen(desk))
        got = self.raised(error, desk.do, line)
        self.assertEqual(vars(got), told, line)
        self.assertEqual(repr(vars(got)), repr(told), line)
        self.raised(error, desk, line)
        self.assertEqual(repr(seen(desk)), before)


FORMS = [(told, re.compile(form_of(told))) for told in DEEDS + OTHERS]


def kind_of_kept(thing):
    return {Room: "ROOM", tuple: "TABLE", list: "ROWS"}[type(thing)]


def there(thing):
    if thing is None:
        raise NoneThere()
    return thing


def told_table(prime, rows):
    if prime not in PRIMES:
        raise InvalidPrime(prime)
    if len(rows) > 6 or any(len(row) != len(rows) or any(rest >= prime for rest in row) for row in rows):
        raise InvalidTable(rows)
    return tuple(map(tuple, rows))


def told_rows(prime, rows):
    if prime not in PRIMES:
        raise InvalidPrime(prime)
    if len(set(map(len, rows))) > 1 or any(rest >= prime for row in rows for rest in row):
        raise InvalidRows(rows)
    return list(map(tuple, rows))


def told_entry(room, at, place, rest):
    for one in (at, place):
        if one >= room.size:
            raise InvalidPlace(one)
    if rest >= room.prime:
        raise InvalidRest(rest)
    return Room(room.prime, [[rest if (i, j) in ((at, place), (place, at)) else room.rows()[i][j] for j in range(room.size)]
                             for i in range(room.size)])


def told_row(rows, at, row):
    if at >= len(rows):
        raise InvalidPlace(at)
    if len(row) != len(rows[at]):
        raise InvalidRow(row)
    return [tuple(row) if i == at else old for i, old in enumerate(rows)]


def as_row(row):
    return ",".join(map(str, row)) or "-"


def told_show(thing):
    if isinstance(thing, Room):
        return " ".join([str(thing.prime)] + list(map(as_row, thing.rows())))
    return " ".join(map(as_row, thing)) or "none"


def spaced(numbers):
    return " ".join(map(str, numbers))


MADE = {
    "room": Room, "plain": lambda prime, *kind: plain_by(prime, kind), "led": lambda room, table: room.led(table),
    "own": own_room, "plainof": plain_room, "beside": beside, "scaled": scaled,
    "taken": lambda room, other: there(taken_off(room, other)), "table": told_table, "idle": idle, "times": times,
    "undone": undone, "lead": lambda room, other: there(lead(room, other)), "keeper": lambda *told: there(keeper_on(*told)),
    "partlead": lambda *told: there(part_lead(*told)), "rows": told_rows, "part": part_of, "angles": right_angles,
    "still": lambda room: room.still(), "sumof": sum_of, "meeting": meeting, "images": images_by,
    "partby": lambda room, *kind: part_by(room, kind), "greatest": greatest_nought}
CHANGED = {"entry": told_entry, "row": told_row}
TOLD = {
    "show": told_show, "kind": lambda room: spaced(kind_of(room)), "partkind": lambda *told: spaced(part_kind(*told)),
    "worth": lambda room, row: str(room.worth(row)), "between": lambda room, row, other: str(room.between(row, other)),
    "rowcount": lambda *told: str(row_count(*told)), "worths": lambda room: spaced(worth_counts(room)),
    "framecount": lambda *told: str(frame_count(*told)), "keepers": lambda room: str(keeper_count(room)),
    "fixing": lambda *told: str(fixing_count(*told)), "holding": lambda *told: str(holding_count(*told)),
    "partcount": lambda room, *kind: str(part_count(room, kind)), "noughts": lambda room: str(nought_size(room)),
    "pairs": lambda room: str(pair_count(room)), "determinant": lambda *told: str(determinant(*told)),
    "same": lambda one, other: "yes" if one == other else "no"}


def parsed(line):
    """The line of the tables, and what stands for each word of it; None for no command."""
    for told, form in FORMS:
        if type(line) is str and form.fullmatch(line):
            kinds, words = told.split(" "), line.split(" ")
            if kinds[-1] == "..":
                rows = [[] if word == "-" else list(map(int, word.split(","))) for word in words[3:]]
                return told, list(zip(kinds[:3], words[:3])) + [("ROW ..", rows)]
            return told, list(zip(kinds, words))
    return None


class Model:
    """What a desk is to do, by the words of the document."""

    def __init__(self):
        self.things, self.claims, self.papers, self.done, self.undone = {}, {}, {}, [], []

    def claim(self, label):
        word, *names = self.claims[label]
        kinds = next(told for told in DEEDS if told.startswith(f"claim LABEL {word} ")).split(" ")[3:]
        kinds = [kinds[at - 1] if kind == "OTHER" else kind for at, kind in enumerate(kinds)]
        if any(name not in self.things or kind_of_kept(self.things[name]) != kind for kind, name in zip(kinds, names)):
            return None
        claim = (word, *[self.things[name] for name in names])
        return claim if is_claim(claim) else None

    def states(self):
        found = {}
        for label in sorted(self.claims):
            claim = self.claim(label)
            found[label] = "gone" if claim is None else "true" if is_true(claim) else "false"
        return found

    def resolved(self, pairs):
        """Things in the places of names, numbers in those of digits."""
        found = []
        kind = None
        for place, word in pairs:
            if place in ("ROOM", "TABLE", "ROWS", "NAME", "OTHER"):
                if place != "OTHER":
                    kind = place
                if word not in self.things or kind not in ("NAME", kind_of_kept(self.things[word])):
                    raise UnknownName(word)
                found.append(self.things[word])
                kind = kind_of_kept(self.things[word])
            elif place == "LABEL":
                if word not in self.claims:
                    raise UnknownLabel(word)
                found.append(word)
            elif place == "ROW":
                found.append([] if word == "-" else list(map(int, word.split(","))))
            else:
                found.append(word if place == "ROW .." else int(word))
        return found

    def do(self, line):
        told = parsed(line)
        if told is None:
            raise InvalidCommand(line)
        form, pairs = told
        word = pairs[0][1]
        if word in ("undo", "redo"):
            return self.turned(word)
        if pairs[1:2] and pairs[1][0] == "NEW" and pairs[1][1] in self.things:
            raise NameTaken(pairs[1][1])
        if word == "claim" and pairs[1][1] in self.claims:
            raise LabelTaken(pairs[1][1])
        behind = pairs[3:] if word == "claim" else pairs[2:] if pairs[1:2] and pairs[1][0] == "NEW" else pairs[1:]
        found = self.resolved(behind)
        return self.deed(line, pairs, found) if form in DEEDS else self.answer(word, pairs, found)

    def turned(self, word):
        ahead, behind = (self.done, self.undone) if word == "undo" else (self.undone, self.done)
        if not ahead:
            raise NothingToUndo() if word == "undo" else NothingToRedo()
        line, kept = ahead.pop()
        behind.append((line, (self.things, self.claims)))
        self.things, self.claims = kept
        return line

    def answer(self, word, pairs, found):
        states = self.states()
        if word == "state":
            return states[found[0]]
        if word == "states":
            return ", ".join(f"{label} {states[label]}" for label in states) or "-"
        if word == "claimed":
            return " ".join(self.claims[found[0]])
        if word == "names":
            return " ".join(sorted(self.things)) or "-"
        return TOLD[word](*found)

    def deed(self, line, pairs, found):
        word, name = pairs[0][1], pairs[1][1]
        things, claims, before = dict(self.things), dict(self.claims), self.states()
        if word == "claim":
            claim = (pairs[2][1], *found)
            if not is_claim(claim):
                raise InvalidClaim(claim)
            claims[name] = (pairs[2][1], *[told for _, told in pairs[3:]])
        elif word == "forget":
            del claims[name]
        elif word == "drop":
            del things[name]
        elif word in CHANGED:
            things[name] = CHANGED[word](*found)
        else:
            things[name] = MADE[word](*found)
        for what, many, limit in [("names", len(things), 12), ("labels", len(claims), 12), ("deeds", len(self.done) + 1, 300)]:
            if many > limit:
                raise TooMany(what, limit)
        self.done.append((line, (self.things, self.claims)))
        self.things, self.claims, self.undone = things, claims, []
        after = self.states()
        return ", ".join(f"{label} {after[label]}" for label in after if before.get(label) != after[label]) or "-"

    def attach(self, label, paper):
        if label not in self.claims:
            raise UnknownLabel(label)
        claim = self.claim(label)
        if claim is None:
            raise InvalidPaper(paper)
        for one in (claim, contrary(claim)):
            if is_paper_of(one, paper):
                self.papers[label] = (self.claims[label], one[0], paper)
                return None
        raise InvalidPaper(paper)

    def fits(self, label):
        if label not in self.claims:
            raise UnknownLabel(label)
        claim = self.claim(label)
        if claim is None or label not in self.papers or self.papers[label][0] != self.claims[label]:
            return False
        _, word, paper = self.papers[label]
        return is_paper_of((word,) + claim[1:], paper)

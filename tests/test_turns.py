"""A desk: deeds taken back and done again, papers, many commands at once, copies, trials."""

import unittest

from restkeepers.claims import contrary, paper_of
from restkeepers.desk import Desk, Trial, tried
from restkeepers.errors import (CommandFailed, InvalidCommand, InvalidLines, InvalidPaper, NameTaken, NothingToRedo,
                                NothingToUndo, TooMany, UnknownLabel, UnknownName)
from restkeepers.rooms import Room
from tests.commanding import BAD, NAME
from tests.desking import BALL, NO_STRINGS, OWN, DeskCase, made, seen
from tests.reckon import NO_KIND, unit

# It leads (1, 1, 1) to (1, 2, 1).
KEEPER = ((1, 0, 0), (0, 2, 0), (0, 0, 1))
STORY = BALL + ["claim k led v p q", "row q 0 1,0,0", "entry v 2 2 0", "drop t", "claim b nought v p", "forget k", "rows t 3 1,0,0",
                "claim k led v p t", "row t 0 0,0,1", "entry v 0 1 1", "drop p", "drop v", "room v 5 1", "forget b", "forget k"]


class UndoRedo(DeskCase):

    def test_lines_and_states_come_back(self):
        desk, kept = Desk(), []
        for line in STORY:
            kept.append(repr(seen(desk)[:9]))
            desk(line)
        ends = [repr(seen(desk)[:9])]
        for at in range(len(STORY) - 1, -1, -1):
            self.same(desk("undo"), STORY[at])
            self.assertEqual(repr(seen(desk)[:9]), kept[at])
            self.same([len(desk), desk.lines()], [at, STORY[:at]])
            self.same(seen(desk)[9], STORY[at:])
        self.refuses(desk, NothingToUndo, {}, "undo")
        for at, line in enumerate(STORY):
            self.assertEqual(repr(seen(desk)[:9]), kept[at])
            self.same(desk("redo"), line)
        self.assertEqual(repr(seen(desk)[:9]), ends[0])
        self.refuses(desk, NothingToRedo, {}, "redo")

    def test_a_deed_leaves_nothing_to_be_done_again(self):
        for at, line in enumerate(STORY):
            desk = made(*STORY[:at + 1])
            desk("undo")
            desk("idle zz 1")
            self.refuses(desk, NothingToRedo, {}, "redo")
            self.same(desk("undo"), "idle zz 1")
            self.same(desk("redo"), "idle zz 1")
            self.same(desk.lines(), STORY[:at] + ["idle zz 1"])

    def test_what_is_no_deed_leaves_it(self):
        desk = made(*BALL, "claim k led v p q", "undo", "undo", "redo", "undo")
        self.same(len(desk), 3)
        desk.do_all("names", "states", "show v", "keepers v", "same p q")
        self.same(desk.do_all("redo", "redo"), [BALL[3], "claim k led v p q"])
        desk.do_all("undo")
        self.assertRaises(CommandFailed, desk.do_all, "redo", "nothing")
        desk.attempt("redo", "undo", "drop p")
        self.same(desk("redo"), "claim k led v p q")
        desk.attach("k", KEEPER)
        desk.do_all("undo", "redo")
        self.same(desk.fits("k"), True)

    def test_undo_and_redo_are_no_deeds(self):
        desk = made(*BALL)
        for _ in range(5):
            desk.do_all("undo", "redo")
        self.same([len(desk), desk.lines()], [4, BALL])


class Papers(DeskCase):

    def test_of_the_claim_and_of_its_contrary(self):
        lines = ["room w 3 2,0,0 0,2,0 0,0,1", "room x 3 2,0,0 0,1,0 0,0,1", "table j 3 1,1,0 0,1,0 0,0,1", "rows r 3 1,0,0"]
        for line in ["alike v w", "unlike v w", "alike v x", "unlike v x", "bends v j", "keeps v j", "goes v p q", "barred v p q",
                     "goes v p r", "barred v p r", "worthy v r", "nought v r", "led v p q", "apart v p q", "led v p r", "apart v p r"]:
            desk = made(*BALL, *lines, "claim k " + line)
            claim = desk.claim_of("k")
            true = claim if desk("state k") == "true" else contrary(claim)
            paper = paper_of(true)
            self.assertIs(desk.fits("k"), False)
            before = repr(seen(desk))
            for value in [None, True, (), [], (5, 5), "paper", [paper], (paper,), paper_of(contrary(true))]:
                if value != paper:
                    self.refused(InvalidPaper, value, desk.attach, "k", value)
                    self.refused(InvalidPaper, value, desk.attach, paper=value, label="k")
            self.assertEqual(repr(seen(desk)), before)
            self.assertIsNone(desk.attach("k", paper))
            self.assertIs(desk.fits("k"), True)
            self.assertIs(desk.fits(label="k"), True)
            self.same(len(desk), 9)

    def test_claims_without_papers(self):
        desk = made(*BALL, "claim a keeps v t", "claim b nought v p")
        for label in "ab":
            for value in [None, (), (0, 0), unit(3)]:
                self.refused(InvalidPaper, value, desk.attach, label, value)
            self.assertIs(desk.fits(label), False)

    def test_one_paper_through_many_deeds(self):
        # The keeper exchanges the second and the third place.
        desk = made("room v 3 1,0,0 0,1,0 0,0,1", "rows p 3 1,2,1", "rows q 3 1,1,2", "claim k led v p q")
        desk.attach("k", [[1, 0, 0], [0, 0, 1], [0, 1, 0]])
        for line, wanted in [("show v", True), ("row q 0 1,2,1", False), ("row p 0 1,1,2", True), ("entry v 1 1 2", False), ("entry v 2 2 2", True),
                             ("drop q", False), ("rows q 3 1,2,1", True), ("drop v", False), ("room v 5 1,0,0 0,1,0 0,0,1", True),
                             ("forget k", None), ("claim k apart v p q", False), ("forget k", None), ("claim k led v q p", False),
                             ("forget k", None), ("claim k led v p q", True), ("undo", None), ("undo", False), ("undo", None), ("undo", False),
                             ("undo", None), ("undo", True), ("redo", None), ("redo", False), ("idle i 3", False), ("undo", False),
                             ("undo", None), ("claim k led v p q", True), ("claim m led v p q", True), ("forget m", True)]:
            desk(line)
            if wanted is None:
                self.refused(UnknownLabel, "k", desk.fits, "k")
                self.refused(UnknownLabel, "k", desk.attach, "k", KEEPER)
            else:
                self.assertIs(desk.fits("k"), wanted, line)
        # The paper hangs on the label, not on the claim.
        desk("claim m led v p q")
        self.assertIs(desk.fits("m"), False)

    def test_kept_for_the_contrary(self):
        desk = made(*BALL, "rows r 3 1,0,0", "claim k goes v p r")
        desk.attach("k", ("between", 0, 0))
        self.assertIs(desk.fits("k"), True)
        desk("row r 0 1,2,1")
        self.same([desk("state k"), desk.fits("k")], ["true", False])
        desk("row r 0 1,1,0")
        self.same([desk("state k"), desk.fits("k")], ["false", True])
        desk("row r 0 0,0,0")
        self.same([desk("state k"), desk.fits("k")], ["false", False])
        desk.attach("k", ("lost", [2]))
        self.assertIs(desk.fits("k"), True)
        desk("row r 0 1,2,1")
        desk.attach("k", KEEPER)
        self.assertIs(desk.fits("k"), True)
        desk("undo")
        self.assertIs(desk.fits("k"), False)
        # The claim with the other word has the paper under its own words only.
        desk.do_all("forget k", "claim k barred v p r")
        self.assertIs(desk.fits("k"), False)
        desk.attach("k", ("lost", (1,)))
        self.assertIs(desk.fits("k"), True)
        desk("row r 0 1,2,1")
        self.assertIs(desk.fits("k"), False)
        self.refused(InvalidPaper, ("lost", [1]), desk.attach, "k", ("lost", [1]))

    def test_another_one_takes_its_place(self):
        desk = made("room v 3 1,0 0,1", "claim k alike v v")
        desk.attach("k", ((1, 0), (0, 1)))
        desk.attach("k", [[0, 1], [1, 0]])
        self.assertIs(desk.fits("k"), True)
        self.refused(InvalidPaper, ((1, 0), (0, 0)), desk.attach, "k", ((1, 0), (0, 0)))
        self.assertIs(desk.fits("k"), True)
        # The first paper would be one here, the second one is none.
        desk("entry v 0 0 2")
        self.assertIs(desk.fits("k"), False)
        desk.attach("k", ((1, 0), (0, 2)))
        self.assertIs(desk.fits("k"), True)

    def test_while_its_state_is_gone(self):
        desk = made(*BALL, "claim k led v p p")
        desk.attach("k", unit(3))
        desk("drop p")
        self.same([desk("state k"), desk.fits("k"), desk.claim_of("k")], ["gone", False, None])
        for value in [unit(3), None, (0, 0)]:
            self.refused(InvalidPaper, value, desk.attach, "k", value)
        desk("rows p 3 0,1,0")
        self.assertIs(desk.fits("k"), True)

    def test_papers_are_copied(self):
        desk = made("room v 3 1,0 0,1", "claim k alike v v", "rows p 3 1,0", "rows q 3 1,1", "claim m barred v p q", "rows e 3 0,0",
                    "claim n goes v p e")
        table, bar, rests = [[1, 0], [0, 1]], ("between", 0, 0), [1]
        for label, paper in [("k", table), ("m", bar), ("n", ("lost", rests))]:
            desk.attach(label, paper)
        table[0][0] = 0
        table.clear()
        rests[0] = 0
        self.same([desk.fits(label) for label in "kmn"], [True, True, True])

    def test_unknown_labels(self):
        desk = made(*BALL, "claim k led v p q")
        for value in NO_STRINGS + BAD[NAME] + ["v", "p", "x", "kk", ["k"], ("k",), {"k": 1}]:
            self.refused(UnknownLabel, value, desk.fits, value)
            self.refused(UnknownLabel, value, desk.claim_of, value)
            self.refused(UnknownLabel, value, desk.claim_of, label=value)
            self.refused(UnknownLabel, value, desk.attach, value, None)
            self.refused(UnknownLabel, value, desk.attach, value, KEEPER)
            self.refused(UnknownLabel, value, desk.attach, paper=None, label=value)


class DoAll(DeskCase):

    def test_answers(self):
        desk = Desk()
        self.same(desk.do_all(), [])
        self.same(desk.do_all(*BALL, "claim k led v p q", "undo", "redo", "names"), ["-"] * 4 + ["k true", "claim k led v p q",
                                                                                             "claim k led v p q", "p q t v"])
        self.same(len(desk), 5)

    def test_none_has_an_effect_if_one_fails(self):
        desk = made(*BALL, "claim k led v p q", "undo", "undo")
        for lines, at, error, told in [(["redo", "redo", "redo"], 2, NothingToRedo, {}), (["drop v", "drop v"], 1, UnknownName, {"value": "v"}),
                                       (["nothing"], 0, InvalidCommand, {"value": "nothing"}), (["undo"] * 4, 3, NothingToUndo, {}),
                                       (["room w 3", "idle i 2", None, "names"], 2, InvalidCommand, {"value": None}),
                                       (["names", "beside y v v", "beside z v y"], 2, TooMany, {"what": "size", "limit": 6}),
                                       (["redo", "redo", "forget k", "state k"], 3, UnknownLabel, {"value": "k"}),
                                       ([["names"]], 0, InvalidCommand, {"value": ["names"]}), (["room v 3"], 0, NameTaken, {"name": "v"})]:
            for function in (desk.do_all, desk.attempt):
                before = repr(seen(desk))
                got = self.raised(CommandFailed, function, *lines)
                self.assertEqual((type(got.position), got.position), (int, at))
                self.assertIs(type(got.__cause__), error)
                self.same(vars(got.__cause__), told)
                self.assertEqual(repr(seen(desk)), before)
        self.same(desk.do_all("redo", "redo"), [BALL[3], "claim k led v p q"])

    def test_attempt(self):
        desk = made(*BALL, "claim k led v p q", "drop t", "undo")
        desk.attach("k", KEEPER)
        before = repr(seen(desk))
        self.same(desk.attempt("row q 0 1,0,0", "undo", "drop v", "states", "forget k", "names"),
                  ["k false", "row q 0 1,0,0", "k gone", "k gone", "-", "p q t"])
        self.same(desk.attempt(), [])
        self.assertEqual(repr(seen(desk)), before)
        self.same([desk("redo"), desk.fits("k")], ["drop t", True])


class Again(DeskCase):

    def test_lines_told_make_the_same_desk(self):
        for at in range(len(STORY) + 1):
            desk = made(*STORY[:at])
            for lines in (desk.lines(), tuple(desk.lines())):
                other = Desk.again(lines)
                self.assertIs(type(other), Desk)
                self.assertEqual(repr(seen(other)), repr(seen(desk)))
        self.same(Desk.again(lines=[]).lines(), [])
        self.same(made(*STORY).again(BALL).lines(), BALL)

    def test_lists_are_copied(self):
        lines = list(BALL)
        desk = Desk.again(lines)
        lines.clear()
        self.same(desk.lines(), BALL)

    def test_no_lists(self):
        for value in NO_KIND + [0, 1, "undo", Desk(), "room v 3", {"room v 3": 1}]:
            got = self.raised(InvalidLines, Desk.again, value)
            self.assertIs(got.position, None)
            self.assertIs(self.raised(InvalidLines, Desk.again, lines=value).position, None)

    def test_no_deeds(self):
        for value in NO_STRINGS + ["undo", "redo", "names", "states", "state k", "show v", "", "nothing", "room x", "room x 3\n", " drop v"]:
            for at in range(3):
                lines = BALL[:at] + [value] + ["no deed"] + BALL[at:]
                got = self.raised(InvalidLines, Desk.again, lines)
                self.assertEqual((type(got.position), got.position), (int, at))
                # What is no deed stands ahead of what fails.
                self.assertEqual(self.raised(InvalidLines, Desk.again, ["drop no"] + lines).position, at + 1)

    def test_deeds_that_fail(self):
        for lines, at, error in [(["drop no"], 0, UnknownName), (BALL + BALL, 4, NameTaken), (BALL + ["forget k"], 4, UnknownLabel),
                                 (["idle t 1"] + ["row t 0 1"] * 2, 1, UnknownName), (["rows p 3 1"] + ["row p 0 1"] * 300, 300, TooMany),
                                 ([f"idle x{at} 1" for at in range(13)], 12, TooMany)]:
            got = self.raised(CommandFailed, Desk.again, lines)
            self.assertEqual((got.position, type(got.__cause__)), (at, error))


class Copies(DeskCase):

    def test_they_go_on_by_themselves(self):
        desk = made(*STORY[:9], "undo", "undo")
        other = desk.copy()
        self.assertIs(type(other), Desk)
        before = repr(seen(desk))
        self.assertEqual(repr(seen(other)), before)
        other.do_all("redo", "drop p", "claim m alike v v")
        self.assertEqual(repr(seen(desk)), before)
        after = repr(seen(other))
        desk.do_all("undo", "undo", "row p 0 0,0,1")
        self.assertEqual(repr(seen(other)), after)

    def test_papers_and_what_can_be_done_again(self):
        desk = made(*BALL, "claim k led v p p", "drop t", "undo")
        desk.attach("k", unit(3))
        other = desk.copy()
        self.same([other.fits("k"), other("redo")], [True, "drop t"])
        other.do_all("forget k", "claim k led v q q")
        other.attach("k", unit(3))
        self.same([other.fits("k"), desk.fits("k"), desk.copy().fits("k")], [True, True, True])
        desk("row p 0 1,1,2")
        self.same([other.fits("k"), desk.fits("k")], [True, True])
        third = desk.copy()
        third.attach("k", ((0, 1, 0), (1, 0, 0), (0, 0, 1)))
        third("row p 0 0,1,2")
        desk("row p 0 0,1,2")
        self.same([third.fits("k"), desk.fits("k")], [False, True])


class Trials(DeskCase):

    def act(self, desk):
        desk.do_all("undo", "drop v", "room v 5 1", "claim m alike v v")
        desk.attach("m", ((4,),))
        desk.do_all("undo", "idle i 2", "names")

    def start(self):
        desk = made(*BALL, "claim k led v p p", "drop t", "idle s 1", "undo")
        desk.attach("k", unit(3))
        return desk

    def test_all_is_as_it_was(self):
        desk = self.start()
        before = repr(seen(desk))
        with Trial(desk) as held:
            self.assertIs(held, desk)
            self.act(held)
            self.assertNotEqual(repr(seen(desk)), before)
        self.assertEqual(repr(seen(desk)), before)
        self.same([desk.fits("k"), desk("redo")], [True, "idle s 1"])
        with Trial(desk=desk):
            desk("forget k")
        self.same(desk.labels, ["k"])

    def test_papers_come_back(self):
        desk = self.start()
        with Trial(desk):
            desk.attach("k", ((0, 1, 0), (0, 0, 1), (1, 0, 0)))
            desk("row p 0 0,0,1")
            self.assertIs(desk.fits("k"), False)
        desk("row p 0 0,0,1")
        self.assertIs(desk.fits("k"), True)
        with Trial(desk):
            desk.do_all("claim m led v p p")
            desk.attach("m", unit(3))
        desk("claim m led v p p")
        self.assertIs(desk.fits("m"), False)

    def test_also_by_an_error_which_goes_on(self):
        desk = self.start()
        before = repr(seen(desk))
        for error in (ValueError, KeyError, UnknownName, TypeError, ZeroDivisionError):
            with self.assertRaises(error):
                with Trial(desk) as held:
                    self.act(held)
                    raise error("told")
            self.assertEqual(repr(seen(desk)), before)
        with self.assertRaises(UnknownName):
            with Trial(desk) as held:
                held("drop p")
                held("drop p")
        self.assertEqual(repr(seen(desk)), before)

    def test_one_block_behind_another_and_within(self):
        desk = self.start()
        trial = Trial(desk)
        desk("idle x 1")
        with trial:
            desk.do_all("drop x", "drop p")
        self.same(desk.names, ["p", "q", "v", "x"])
        desk("drop x")
        before = repr(seen(desk))
        with trial as held:
            held("drop p")
            within = repr(seen(held))
            with Trial(held):
                held.do_all("drop q", "undo", "undo")
            self.assertEqual(repr(seen(held)), within)
        self.assertEqual(repr(seen(desk)), before)

    def test_tried(self):
        desk = self.start()
        before = repr(seen(desk))
        self.same(tried(desk, lambda held: held.do_all("drop v", "names")), ["k gone", "p q"])
        self.same(tried(action=lambda held: held is desk, desk=desk), True)
        self.assertIsNone(tried(desk, self.act))
        self.same(tried(desk, lambda held: held.attempt("drop p")), ["k gone"])
        self.assertEqual(repr(seen(desk)), before)
        self.assertRaises(OWN, tried, desk, lambda held: (held("drop p"), held("drop p")))
        self.assertRaises(ZeroDivisionError, tried, desk, lambda held: (held("drop p"), 1 // 0))
        self.assertEqual(repr(seen(desk)), before)
        self.same(tried(desk, lambda held: tried(held, lambda one: one("drop p"))), "k gone")

    def test_what_is_told_within_stays(self):
        desk = self.start()
        kept = tried(desk, lambda held: [held("room w 7 3"), held["w"], held.copy()])
        self.same(kept[:2], ["-", Room(7, ((3,),))])
        self.same([kept[2].names, desk.names], [["p", "q", "v", "w"], ["p", "q", "v"]])


if __name__ == "__main__":
    unittest.main()

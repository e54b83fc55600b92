"""A desk: deeds, answers, states, refusals."""

import unittest

from restkeepers.claims import contrary, paper_of
from restkeepers.desk import Desk
from restkeepers.errors import (InvalidClaim, InvalidCommand, InvalidImages, InvalidKind, InvalidMates, InvalidPart, InvalidPlace,
                                InvalidPrime, InvalidRest, InvalidRow, InvalidRows, InvalidSize, InvalidTable, LabelTaken,
                                NameTaken, NoneThere, NothingToRedo, NothingToUndo, NotNought, NotUndone, TooMany,
                                UnknownLabel, UnknownName, UnlikePrimes, UnlikeSizes)
from restkeepers.rooms import Room
from tests.commanding import BAD, DEEDS, FORMS, NAME, OTHERS
from tests.desking import BALL, NO_STRINGS, OWN, DeskCase, Model, made, seen
from tests.reckon import Numbers, unit


class Empty(DeskCase):

    def test_at_first(self):
        desk = Desk()
        self.same([desk.names, desk.labels, len(desk), desk.lines(), desk("names"), desk("states")], [[], [], 0, [], "-", "-"])
        self.refuses(desk, NothingToUndo, {}, "undo")
        self.refuses(desk, NothingToRedo, {}, "redo")
        self.assertIs("v" in desk, False)
        self.refused(UnknownName, "v", lambda name: desk[name], "v")
        self.refused(UnknownLabel, "k", desk.claim_of, "k")

    def test_not_iterated_over(self):
        self.assertRaises(TypeError, iter, Desk())


class Deeds(DeskCase):

    def check(self, lines, name, wanted, answers=None):
        desk = Desk()
        self.assertEqual(desk.do_all(*lines), answers or ["-"] * len(lines))
        self.same(desk[name], wanted)
        self.assertEqual(desk.lines(), list(lines))
        self.assertEqual(len(desk), len(lines))
        self.assertIs(name in desk, True)

    def test_rooms(self):
        for line, wanted in [
                ("room x 5 1,2 2,0", Room(5, ((1, 2), (2, 0)))), ("room x 13", Room(13, ())), ("room x 11 10", Room(11, ((10,),))),
                ("plain x 3 3 2 -1", Room(3, ((1, 0, 0), (0, 2, 0), (0, 0, 0)))), ("plain x 7 0 0 1", Room(7, ())),
                ("led x v t", Room(3, unit(3))), ("own x v p", Room(3, ((0,),))), ("own x v e", Room(3, ())),
                ("plainof x v", Room(3, unit(3))), ("beside x v v", Room(3, unit(6))), ("scaled x v 2", Room(3, ((2, 0, 0), (0, 2, 0), (0, 0, 2)))),
                ("scaled x v 0", Room(3, ((0, 0, 0),) * 3)), ("taken x v v", Room(3, ()))]:
            self.check(BALL + ["rows e 3", line], "x", wanted)

    def test_tables(self):
        for line, wanted in [
                ("table x 5 1,2 4,0", ((1, 2), (4, 0))), ("table x 3", ()), ("idle x 2", ((1, 0), (0, 1))), ("idle x 0", ()),
                ("times x 3 t t", unit(3)), ("times x 5 t t", ((1, 0, 0), (0, 1, 0), (0, 0, 4))), ("undone x 3 t", ((1, 0, 0), (0, 1, 0), (0, 0, 2))),
                ("undone x 7 t", ((1, 0, 0), (0, 1, 0), (0, 0, 4)))]:
            self.check(BALL + [line], "x", wanted)
        desk = made(*BALL, "room w 3 0,1,0 1,0,0 0,0,2", "lead x w v", "keeper y v p q", "partlead z v p q", "claim a alike w v",
                    "claim b keeps v y", "claim c keeps v z", "images i v p y", "images j v p z", "part n v j")
        self.assertIs(type(desk["x"]), tuple)
        self.same([desk("states"), desk["i"], desk["n"]], ["a true, b true, c true", [(1, 2, 1)], [(1, 2, 1)]])

    def test_rows(self):
        for line, wanted in [
                ("rows x 3 1,2 0,0 1,2", [(1, 2), (0, 0), (1, 2)]), ("rows x 5", []), ("rows x 3 - -", [(), ()]), ("rows x 13 12", [(12,)]),
                ("part x v r", [(1, 1, 1), (0, 0, 0)][:1]), ("angles x v p", [(1, 0, 2), (0, 1, 2)]), ("still x v", []),
                ("sumof x v p q", [(1, 0, 1), (0, 1, 0)]), ("meeting x v p q", []), ("images x v p t", [(1, 1, 2)]),
                ("partby x v 3 3 1 0", [(1, 0, 0), (0, 1, 0), (0, 0, 1)]), ("partby x v 0 0 1 0", []), ("greatest x v p", [(1, 1, 1)])]:
            self.check(BALL + ["rows r 3 2,2,2 1,1,1", line], "x", wanted)
        for many in (1, 6, 40):
            self.check([f"rows x 3{' 1,2' * many}"], "x", [(1, 2)] * many)

    def test_entry_row_drop(self):
        self.check(BALL + ["entry v 0 2 2"], "v", Room(3, ((1, 0, 2), (0, 1, 0), (2, 0, 1))))
        self.check(BALL + ["entry v 2 0 2"], "v", Room(3, ((1, 0, 2), (0, 1, 0), (2, 0, 1))))
        self.check(BALL + ["entry v 1 1 0"], "v", Room(3, ((1, 0, 0), (0, 0, 0), (0, 0, 1))))
        self.check(BALL + ["row p 0 0,1,0"], "p", [(0, 1, 0)])
        # Lists are kept without a prime.
        self.check(BALL + ["row p 0 99,10,0"], "p", [(99, 10, 0)])
        self.check(["rows p 3 - -", "row p 1 -"], "p", [(), ()])
        desk = made(*BALL, "drop p")
        self.same([desk.names, "p" in desk, "v" in desk], [["q", "t", "v"], False, True])
        self.refused(UnknownName, "p", lambda name: desk[name], "p")
        desk.do_all("room p 3", "drop p", "table p 3 1", "drop p", "rows p 3")
        self.same(desk["p"], [])

    def test_kept_things_do_not_hang_on_other_names(self):
        desk = made(*BALL, "led w v t", "part x v p", "entry v 0 0 2", "row p 0 0,0,0", "drop t")
        self.same([desk["w"], desk["x"]], [Room(3, unit(3)), [(1, 1, 1)]])

    def test_what_is_kept_is_new_each_time(self):
        desk = made(*BALL, "claim k led v p q")
        for _ in range(2):
            desk["p"].append("more")
            desk.names.append("more")
            desk.labels.clear()
            desk.lines().clear()
            desk.claim_of("k")[2].clear()
            self.same([desk["p"], desk.names, desk.labels, len(desk.lines())], [[(1, 1, 1)], ["p", "q", "t", "v"], ["k"], 5])
            self.same(desk.claim_of("k"), ("led", Room(3, unit(3)), [(1, 1, 1)], [(1, 2, 1)]))

    def test_in_and_item_of_any_value(self):
        desk = made(*BALL, "claim k led v p q")
        for value in NO_STRINGS + BAD[NAME] + ["k", "x", "vv", "v ", ["v"], ("v",), {"v": 1}]:
            self.assertIs(value in desk, False)
            self.refused(UnknownName, value, lambda name: desk[name], value)
        for name in "pqtv":
            self.assertIs(name in desk, True)


class Answers(DeskCase):

    def test_each_other_command(self):
        desk = made(*BALL, "room w 5 0,1 1,0", "rows e 3", "rows z 3 - -", "table n 3", "room o 7", "table m 3 0,1 1,0", "room h 3 1,1 1,1")
        for line, wanted in [
                ("names", "e h m n o p q t v w z"), ("show v", "3 1,0,0 0,1,0 0,0,1"), ("show o", "7"), ("show n", "none"),
                ("show e", "none"), ("show z", "- -"), ("show p", "1,1,1"), ("show m", "0,1 1,0"), ("kind v", "3 3 1"),
                ("kind w", "2 2 1"), ("kind o", "0 0 1"), ("kind h", "2 1 1"), ("partkind v p", "1 0 1 0"), ("partkind v e", "0 0 1 0"),
                ("worth v 1,1,0", "2"), ("worth o -", "0"), ("between v 1,0,0 0,1,0", "0"), ("between w 1,0 0,4", "4"),
                ("rowcount v 0", "9"), ("rowcount w 1", "4"), ("worths v", "9 6 12"), ("worths o", "1 0 0 0 0 0 0"),
                ("framecount v m", "24"), ("framecount v n", "1"), ("framecount w m", "8"), ("keepers v", "48"), ("keepers o", "1"),
                ("fixing v p", "6"), ("holding v p", "12"), ("fixing v e", "48"), ("partcount v 1 0 1 0", "4"),
                ("partcount v 9 9 0 99", "0"), ("partcount v 1 1 -1 0", "6"), ("noughts v", "1"), ("noughts h", "1"),
                ("pairs v", "1"), ("pairs w", "1"), ("pairs o", "0"), ("determinant 3 t", "2"), ("determinant 5 t", "2"),
                ("determinant 3 n", "1"), ("same p q", "no"), ("same v v", "yes"), ("same p p", "yes"), ("same v w", "no"),
                ("same t m", "no"), ("same n n", "yes"), ("same e p", "no"), ("states", "-")]:
            before = repr(seen(desk))
            self.same(desk.do(line), wanted)
            self.same(desk(line), wanted)
            self.same(desk.do(command=line), wanted)
            self.assertEqual(repr(seen(desk)), before)

    def test_same_for_equal_things_under_other_names(self):
        desk = made("room v 3 1", "room w 3 1", "room x 5 1", "table t 3 1", "table s 5 1", "rows p 3 1", "rows q 13 1", "rows e 3")
        self.same([desk(line) for line in ["same v w", "same v x", "same t s", "same p q", "same p e"]], ["yes", "no", "yes", "yes", "no"])
        self.refuses(desk, UnknownName, {"value": "t"}, "same p t")
        self.refuses(desk, UnknownName, {"value": "p"}, "same t p")
        self.refuses(desk, UnknownName, {"value": "p"}, "same v p")
        self.refuses(desk, UnknownName, {"value": "no"}, "same no v")
        self.refuses(desk, UnknownName, {"value": "no"}, "same v no")

    def test_labels(self):
        desk = made(*BALL)
        self.same(desk.do_all("claim k led v p q", "claim a apart v p q", "claim v goes v p q"), ["k true", "a false", "v true"])
        self.same([desk("states"), desk("state a"), desk("state v"), desk("claimed k"), desk("claimed v"), desk.labels],
                  ["a false, k true, v true", "false", "true", "led v p q", "goes v p q", ["a", "k", "v"]])
        self.same(desk.claim_of(label="a"), ("apart", Room(3, unit(3)), [(1, 1, 1)], [(1, 2, 1)]))


class States(DeskCase):

    def test_answers_tell_what_changed(self):
        desk = made(*BALL, "room w 3 1,0,0 0,2,0 0,0,1")
        for line, answer, states in [
                ("claim k led v p q", "k true", "k true"), ("claim b alike v w", "b false", "b false, k true"),
                ("claim c keeps v t", "c true", "b false, c true, k true"), ("row q 0 1,0,0", "k false", "b false, c true, k false"),
                ("row q 0 1,1,0", "-", "b false, c true, k false"), ("row q 0 0,2,0", "k gone", "b false, c true, k gone"),
                ("row p 0 0,0,0", "-", "b false, c true, k gone"), ("row q 0 1,2,2", "-", "b false, c true, k gone"),
                ("row p 0 1,1,2", "k true", "b false, c true, k true"), ("drop q", "k gone", "b false, c true, k gone"),
                ("table q 3", "-", "b false, c true, k gone"), ("drop q", "-", "b false, c true, k gone"),
                ("rows q 3 1,0,0", "k false", "b false, c true, k false"), ("entry v 0 0 2", "b true", "b true, c true, k false"),
                ("drop v", "b gone, c gone, k gone", "b gone, c gone, k gone"), ("room v 3 1", "-", "b gone, c gone, k gone"),
                ("drop v", "-", "b gone, c gone, k gone"), ("room v 5 1,0,0 0,1,0 0,0,1", "c false, k true", "b gone, c false, k true"),
                ("forget k", "-", "b gone, c false"), ("claim k apart v p q", "k false", "b gone, c false, k false"),
                ("forget b", "-", "c false, k false"), ("idle i 6", "-", "c false, k false")]:
            self.same([desk.do(line), desk("states")], [answer, states])
            for told in states.split(", "):
                label, state = told.split(" ")
                self.same(desk("state " + label), state)
                self.assertEqual(desk.claim_of(label) is None, state == "gone")
        for line, states in [("idle i 6", "c false, k false"), ("forget b", "b gone, c false, k false"), ("claim k apart v p q", "b gone, c false"),
                             ("forget k", "b gone, c false, k true"), ("room v 5 1,0,0 0,1,0 0,0,1", "b gone, c gone, k gone"),
                             ("drop v", "b gone, c gone, k gone"), ("room v 3 1", "b gone, c gone, k gone"), ("drop v", "b true, c true, k false")]:
            self.same([desk("undo"), desk("states")], [line, states])

    def test_gone_by_each_way(self):
        desk = made(*BALL, "rows i 3 1,2,1", "claim k goes v p i")
        for ahead, line in [([], "drop p"), ([], "drop i"), ([], "drop v"), ([], "row p 0 2,2,2"), ([], "row i 0 3,0,0"), ([], "row p 0 0,0,0"),
                            (["drop i"], "table i 3 1"), (["drop i"], "room i 3"), (["drop i"], "rows i 3"), (["drop i"], "rows i 3 1,1"),
                            (["drop i"], "rows i 3 1,1,1 1,1,1"), (["drop v"], "room v 3 1"), (["drop v"], "rows v 3 1,1,1"),
                            (["drop p"], "rows p 3"), (["drop p"], "rows p 5 1,4,4")]:
            other = desk.copy()
            answers = other.do_all(*ahead, line)
            self.same([answers[0], other("state k"), other.claim_of("k"), other.fits("k")], ["k gone", "gone", None, False])
            self.same(answers[1:], ["-"] * len(ahead))
            for _ in answers:
                other("undo")
            self.same(other("states"), "k true")
        self.same(desk("state k"), "true")

    def test_the_labels_of_things_made_anew(self):
        desk = made(*BALL, "claim k led v p q", "drop q")
        self.same([desk("rows q 3 1,1,1"), desk("drop q"), desk("rows q 3 1,0,0"), desk("drop q"), desk("room q 3")],
                  ["k true", "k gone", "k false", "k gone", "-"])

    def test_every_word(self):
        desk = made(*BALL, "room w 3 2,0,0 0,2,0 0,0,1", "idle i 3", "table j 3 1,1,0 0,1,0 0,0,1", "rows r 3 1,0,0")
        for line, wanted in [("alike v w", "true"), ("unlike v w", "false"), ("keeps v t", "true"), ("bends v t", "false"), ("keeps v j", "false"),
                             ("bends v j", "true"), ("goes v p q", "true"), ("barred v p q", "false"), ("goes v p r", "false"),
                             ("barred v p r", "true"), ("nought v p", "true"), ("worthy v p", "false"), ("worthy v r", "true"),
                             ("led v p q", "true"), ("apart v p q", "false"), ("apart v p r", "true"), ("led v r p", "false")]:
            self.same([desk("claim k " + line), desk("state k"), desk("claimed k"), desk("forget k")], ["k " + wanted, wanted, line, "-"])


class Refused(DeskCase):

    def test_no_commands(self):
        desk = made(*BALL)
        for value in NO_STRINGS + ["", " ", "nothing", "room", "room x", "room X 3", "undo ", " undo", "undo 1", "redo redo", "states k",
                                   "room x 3 1,", "row p 0", "show", "claim k led v p", "claim k gone v p q", "idle x 100", "names\n",
                                   "rows x 3" + " 1" * 41, "plain x 3 1 1 2"]:
            before = repr(seen(desk))
            self.refused(InvalidCommand, value, desk.do, value)
            self.refused(InvalidCommand, value, desk, value)
            self.refused(InvalidCommand, value, desk.do, command=value)
            self.assertEqual(repr(seen(desk)), before)

    def test_taken_ahead_of_unknown(self):
        desk = made(*BALL, "claim k led v p q")
        for line in ["room v 4", "led v no no", "table p 4", "idle q 9", "rows t 3 3", "partby v no 9 9 0 9", "undone p 3 no", "lead t no no"]:
            self.refuses(desk, NameTaken, {"name": line.split(" ")[1]}, line)
        for line in ["claim k led no no no", "claim k alike v v", "claim k led v p q"]:
            self.refuses(desk, LabelTaken, {"label": "k"}, line)

    def test_unknown_names_and_labels(self):
        desk = made(*BALL)
        for line, name in [("led x v p", "p"), ("led x t v", "t"), ("led x no no", "no"), ("led x x t", "x"), ("own x p v", "p"), ("own x v t", "t"),
                           ("plainof x p", "p"), ("beside x v t", "t"), ("scaled x p 9", "p"), ("taken x v p", "p"), ("times x 4 p t", "p"),
                           ("times x 4 t p", "p"), ("undone x 4 p", "p"), ("lead x v p", "p"), ("keeper x v p t", "t"), ("keeper x v t p", "t"),
                           ("partlead x v v v", "v"), ("part x v v", "v"), ("angles x t p", "t"), ("still x no", "no"), ("sumof x v p t", "t"),
                           ("meeting x v no p", "no"), ("images x v p p", "p"), ("images x v t t", "t"), ("partby x p 9 9 0 9", "p"),
                           ("greatest x v t", "t"), ("entry p 9 9 9", "p"), ("row v 9 1", "v"), ("row t 9 1", "t"), ("drop no", "no"), ("show no", "no"),
                           ("kind p", "p"), ("partkind v t", "t"), ("worth t 9", "t"), ("between p - -", "p"), ("rowcount t 9", "t"), ("worths t", "t"),
                           ("framecount v p", "p"), ("keepers q", "q"), ("fixing p v", "p"), ("holding v v", "v"), ("partcount p 0 0 0 0", "p"),
                           ("noughts t", "t"), ("pairs t", "t"), ("determinant 4 v", "v"), ("determinant 4 p", "p"), ("claim k alike v p", "p"),
                           ("claim k keeps v p", "p"), ("claim k goes v p v", "v"), ("claim k led p p p", "p"), ("claim k nought v t", "t")]:
            self.refuses(desk, UnknownName, {"value": name}, line)
        for line in ["state k", "claimed k", "forget k", "state v", "forget p"]:
            self.refuses(desk, UnknownLabel, {"value": line.split(" ")[1]}, line)

    def test_errors_of_functions_and_classes(self):
        desk = made(*BALL, "room w 5 1", "table s 3 0", "table u 3 0,1 1,1", "rows e 3", "rows b 3 2,0,0", "rows c 3 1,0", "rows n 3 1,0,0",
                    "room g 3 1,0,0,0 0,1,0,0 0,0,1,0 0,0,0,1")
        for line, error, told in [
                ("room x 4", InvalidPrime, {"value": 4}), ("room x 99 5", InvalidPrime, {"value": 99}), ("room x 3 3", InvalidRows, {"value": [[3]]}),
                ("room x 3 1,0 0", InvalidRows, {"value": [[1, 0], [0]]}), ("room x 3 0,1 2,0", InvalidRows, {"value": [[0, 1], [2, 0]]}),
                ("room x 3 -", InvalidRows, {"value": [[]]}), ("room x 3" + " 0,0,0,0,0,0" * 7, InvalidRows, {"value": [[0] * 6] * 7}),
                ("plain x 4 1 1 1", InvalidPrime, {"value": 4}), ("plain x 3 1 1 0", InvalidKind, {"value": (1, 1, 0)}),
                ("plain x 3 7 1 1", InvalidKind, {"value": (7, 1, 1)}), ("plain x 3 1 0 -1", InvalidKind, {"value": (1, 0, -1)}),
                ("led x v s", InvalidTable, {"value": ((0,),)}), ("own x v b", InvalidPart, {"value": [(2, 0, 0)]}), ("own x w p", InvalidPart, {"value": [(1, 1, 1)]}),
                ("beside x v w", UnlikePrimes, {}), ("beside x v g", TooMany, {"what": "size", "limit": 6}), ("scaled x v 3", InvalidRest, {"value": 3}),
                ("taken x v w", UnlikePrimes, {}), ("taken x v g", NoneThere, {}), ("table x 9 1", InvalidPrime, {"value": 9}),
                ("table x 3 1,1", InvalidTable, {"value": [[1, 1]]}), ("table x 3 3", InvalidTable, {"value": [[3]]}), ("table x 3 -", InvalidTable, {"value": [[]]}),
                ("table x 3" + " 0,0,0,0,0,0" * 7, InvalidTable, {"value": [[0] * 6] * 7}), ("idle x 7", InvalidSize, {"value": 7}),
                ("times x 4 t s", InvalidPrime, {"value": 4}), ("times x 3 t s", UnlikeSizes, {}), ("undone x 4 t", InvalidPrime, {"value": 4}),
                ("undone x 3 s", NotUndone, {}), ("lead x v g", NoneThere, {}), ("lead x v w", NoneThere, {}),
                ("keeper x v b p", InvalidPart, {"value": [(2, 0, 0)]}), ("keeper x v p e", InvalidImages, {"value": []}),
                ("keeper x v p c", InvalidImages, {"value": [(1, 0)]}), ("keeper x v p n", NoneThere, {}), ("partlead x v b p", InvalidPart, {"value": [(2, 0, 0)]}),
                ("partlead x v p c", InvalidPart, {"value": [(1, 0)]}), ("partlead x v p n", NoneThere, {}), ("rows x 1 1", InvalidPrime, {"value": 1}),
                ("rows x 3 3", InvalidRows, {"value": [[3]]}), ("rows x 3 1 1,1", InvalidRows, {"value": [[1], [1, 1]]}), ("rows x 3 1 -", InvalidRows, {"value": [[1], []]}),
                ("part x v c", InvalidRows, {"value": [(1, 0)]}), ("angles x v c", InvalidRows, {"value": [(1, 0)]}), ("sumof x v b c", InvalidPart, {"value": [(2, 0, 0)]}),
                ("sumof x v p c", InvalidPart, {"value": [(1, 0)]}), ("meeting x v p b", InvalidPart, {"value": [(2, 0, 0)]}),
                ("images x v b t", InvalidPart, {"value": [(2, 0, 0)]}), ("images x v p u", InvalidTable, {"value": ((0, 1), (1, 1))}),
                ("partby x v 2 0 1 0", InvalidKind, {"value": (2, 0, 1, 0)}), ("partby x v 1 1 0 0", InvalidKind, {"value": (1, 1, 0, 0)}),
                ("greatest x v b", InvalidPart, {"value": [(2, 0, 0)]}), ("greatest x v n", NotNought, {}), ("entry v 3 9 9", InvalidPlace, {"value": 3}),
                ("entry v 0 3 9", InvalidPlace, {"value": 3}), ("entry v 5 4 9", InvalidPlace, {"value": 5}), ("entry v 2 2 3", InvalidRest, {"value": 3}),
                ("row p 1 1", InvalidPlace, {"value": 1}), ("row e 0 -", InvalidPlace, {"value": 0}), ("row p 0 1,1", InvalidRow, {"value": [1, 1]}),
                ("row p 0 -", InvalidRow, {"value": []}), ("row p 0 1,1,1,1", InvalidRow, {"value": [1, 1, 1, 1]}), ("partkind v b", InvalidPart, {"value": [(2, 0, 0)]}),
                ("worth v 1,1", InvalidRow, {"value": [1, 1]}), ("worth v 3,0,0", InvalidRow, {"value": [3, 0, 0]}), ("worth v -", InvalidRow, {"value": []}),
                ("between v 1 2", InvalidRow, {"value": [1]}), ("between v 0,0,0 2", InvalidRow, {"value": [2]}), ("rowcount v 3", InvalidRest, {"value": 3}),
                ("fixing v b", InvalidPart, {"value": [(2, 0, 0)]}),
                ("holding w p", InvalidPart, {"value": [(1, 1, 1)]}), ("determinant 6 t", InvalidPrime, {"value": 6})]:
            self.refuses(desk, error, told, line)
        desk.do_all("drop g", "drop s", "table l 3 0,1 2,0", "table f 13 12")
        self.refuses(desk, InvalidMates, {"value": ((0, 1), (2, 0))}, "framecount v l")
        self.refuses(desk, InvalidMates, {"value": ((12,),)}, "framecount v f")
        self.refuses(desk, InvalidTable, {"value": ((12,),)}, "determinant 3 f")
        self.refuses(desk, InvalidTable, {"value": ((12,),)}, "undone x 3 f")
        self.refuses(desk, InvalidTable, {"value": ((12,),)}, "times x 3 f f")

    def test_no_claims(self):
        desk = made(*BALL, "room w 5 1,0,0 0,1,0 0,0,1", "room g 3 1", "table s 3 0", "rows b 3 2,0,0", "rows e 3", "rows c 3 1,0")
        three, one = Room(3, unit(3)), Room(3, ((1,),))
        for line, claim in [("alike v w", ("alike", three, Room(5, unit(3)))), ("unlike v g", ("unlike", three, one)), ("keeps v s", ("keeps", three, ((0,),))),
                            ("bends v s", ("bends", three, ((0,),))), ("goes v p e", ("goes", three, [(1, 1, 1)], [])), ("barred v b p", ("barred", three, [(2, 0, 0)], [(1, 1, 1)])),
                            ("goes v p c", ("goes", three, [(1, 1, 1)], [(1, 0)])), ("nought v b", ("nought", three, [(2, 0, 0)])), ("worthy g p", ("worthy", one, [(1, 1, 1)])),
                            ("led v p b", ("led", three, [(1, 1, 1)], [(2, 0, 0)])), ("apart v c p", ("apart", three, [(1, 0)], [(1, 1, 1)]))]:
            self.refuses(desk, InvalidClaim, {"value": claim}, "claim k " + line)

    def test_limits_last(self):
        desk = made(*BALL, *[f"rows x{at} 3" for at in range(8)])
        self.assertEqual(len(desk.names), 12)
        names = {"what": "names", "limit": 12}
        for line in ["room y 3", "idle y 0", "led y v t", "rows y 3 1"]:
            self.refuses(desk, TooMany, names, line)
        self.refuses(desk, InvalidSize, {"value": 9}, "idle y 9")
        self.refuses(desk, NoneThere, {}, "partlead y v p x0")
        self.refuses(desk, UnknownName, {"value": "no"}, "plainof y no")
        self.refuses(desk, NameTaken, {"name": "v"}, "room v 3")
        desk.do_all(*[f"claim k{at} led v p q" for at in range(12)], "entry v 0 0 2", "row p 0 1,0,0", "entry v 0 0 1", "row p 0 1,1,1")
        labels = {"what": "labels", "limit": 12}
        self.refuses(desk, TooMany, labels, "claim y led v p q")
        self.refuses(desk, InvalidClaim, {"value": ("goes", Room(3, unit(3)), [(1, 1, 1)], [])}, "claim y goes v p x0")
        self.refuses(desk, LabelTaken, {"label": "k0"}, "claim k0 led v p q")
        desk.do_all("forget k3", "claim y led v p q", "drop x3", "room y 3")
        self.same([len(desk.names), len(desk.labels)], [12, 12])
        turns = []
        while len(desk) + len(turns) < 300:
            turns.append(f"entry v 0 1 {len(turns) % 2}")
        desk.do_all(*turns)
        self.same(len(desk), 300)
        self.refuses(desk, TooMany, names, "room z 3")
        self.refuses(desk, TooMany, labels, "claim z led v p q")
        deeds = {"what": "deeds", "limit": 300}
        for line in ["drop y", "forget y", "entry v 0 0 2", "row p 0 1,0,0"]:
            self.refuses(desk, TooMany, deeds, line)
        self.refuses(desk, InvalidRest, {"value": 3}, "entry v 0 0 3")
        self.same([desk("names"), desk("undo"), len(desk)], [" ".join(desk.names), turns[-1], 299])
        self.same([desk("redo"), len(desk)], [turns[-1], 300])
        self.refuses(desk, TooMany, deeds, "drop y")
        desk.do_all("undo", "undo", "drop y", "room y 5")
        self.same([len(desk), desk["y"]], [300, Room(5, ())])
        self.refuses(desk, NothingToRedo, {}, "redo")

    def test_a_refused_deed_leaves_what_can_be_done_again(self):
        desk = made(*BALL, "undo")
        for line in ["room v 3", "room x 4", "drop no", "nothing", "state k", "claim k led v p p p", "keeper x v p q q"]:
            self.assertRaises(OWN, desk.do, line)
        for line in ["names", "show v", "states", "worths v"]:
            desk(line)
        self.same([desk("redo"), "t" in desk], [BALL[-1], True])


class Drawn(DeskCase):
    """Drawn commands, one after the other, on a desk and on what the tests reckon."""

    names = ["v", "w", "p", "q", "r", "t", "s", "x", "y", "z", "a", "b", "c"]
    labels = ["k", "v", "m"]

    def word(self, kind, numbers, model):
        """A word for the kind; mostly one that does."""
        def pick(some):
            return some[numbers.below(len(some))]
        if kind == "NEW":
            free = [name for name in self.names if name not in model.things]
            return pick(free) if free and numbers.below(8) else pick(self.names)
        if kind in ("ROOM", "TABLE", "ROWS"):
            made_of = {"ROOM": Room, "TABLE": tuple, "ROWS": list}[kind]
            there = [name for name in self.names if type(model.things.get(name)) is made_of]
            return pick(there) if there and numbers.below(12) else pick(self.names)
        if kind == "NAME":
            return pick(sorted(model.things)) if model.things and numbers.below(12) else pick(self.names)
        return {"LABEL": lambda: pick(self.labels), "PRIME": lambda: pick(["3", "3", "3", "5", "3", "4"]),
                "COUNT": lambda: pick(["0", "1", "2", "1", "0", "3"]), "REST": lambda: pick(["0", "1", "2", "2", "3"]),
                "SIGN": lambda: pick(["1", "-1", "1", "0"]), "ROW": lambda: self.row(numbers)}[kind]()

    def row(self, numbers):
        size = [2, 2, 2, 2, 2, 1, 3, 0][numbers.below(8)]
        return ",".join(str(numbers.below(3)) for _ in range(size)) or "-"

    def line(self, told, numbers, model):
        words, ahead = [], None
        for kind in told.split(" "):
            if kind == "..":
                table = Numbers(numbers.below(999)).symmetric(3, 2)
                rows = [",".join(map(str, row)) for row in table] if numbers.below(4) else [self.row(numbers) for _ in range(numbers.below(4))]
                words = words[:3] + rows
            elif kind == "OTHER":
                words.append(self.word(ahead, numbers, model))
            else:
                words.append(self.word(kind, numbers, model) if kind in FORMS else kind)
                ahead = kind if kind in ("ROOM", "TABLE", "ROWS", "NAME") else ahead
        return " ".join(words)

    def outcome(self, function, *told):
        try:
            return ("told", function(*told))
        except OWN as error:
            return ("raised", type(error), vars(error))

    def check(self, desk, model):
        self.same([desk.names, desk.labels, len(desk), desk.lines()],
                  [sorted(model.things), sorted(model.claims), len(model.done), [line for line, _ in model.done]])
        for name in desk.names:
            self.same(desk[name], model.things[name])
        for label in desk.labels:
            self.same([desk.claim_of(label), desk.fits(label), desk("state " + label)],
                      [model.claim(label), model.fits(label), model.states()[label]])

    def attach(self, desk, model, numbers):
        label = self.labels[numbers.below(3)]
        claim = model.claim(label) if label in model.claims else None
        papers = [None, (0, 0), ((1, 0), (0, 1))]
        if claim is not None:
            papers += [paper_of(claim), paper_of(contrary(claim))] * 2
        paper = papers[numbers.below(len(papers))]
        self.same(self.outcome(desk.attach, label, paper), self.outcome(model.attach, label, paper))

    def test_long_walks(self):
        claims = [told for told in DEEDS if told.startswith("claim")]
        makers = [told for told in DEEDS if " NEW " in told]
        changers = ["entry ROOM COUNT COUNT REST", "row ROWS COUNT ROW", "drop NAME", "forget LABEL"]
        kinds = {}
        for seed in range(60):
            numbers, desk, model = Numbers(seed), Desk(), Model()
            for line in ["room v 3 1,0 0,1", "room w 3 0,1 1,0", "rows p 3 1,1", "rows q 3 1,2", "table t 3 0,1 1,0"]:
                self.same(desk.do(line), model.do(line))
            for step in range(200):
                some = [makers, makers, claims, changers[:2], changers, OTHERS[2:], ["undo"], ["redo", "undo"], ["attach"]][numbers.below(9)]
                told = some[numbers.below(len(some))]
                if told == "attach":
                    self.attach(desk, model, numbers)
                    continue
                line = self.line(told, numbers, model)
                got, wanted = self.outcome(desk.do, line), self.outcome(model.do, line)
                self.same(got, wanted)
                word = got[0] if got[0] == "told" else got[1].__name__
                kinds[word] = kinds.get(word, 0) + 1
                if step % 6 == 0:
                    self.check(desk, model)
            self.check(desk, model)
            again = Desk.again(desk.lines())
            self.same([again(line) for line in ["names", "states"]], [desk(line) for line in ["names", "states"]])
            self.same([again[name] for name in again.names], [desk[name] for name in desk.names])
        # Most commands are done, and the others are refused for many reasons.
        self.assertGreater(2 * kinds["told"], sum(kinds.values()))
        self.assertGreater(len(kinds), 15)


if __name__ == "__main__":
    unittest.main()

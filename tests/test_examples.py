"""Every example of the interface, as it stands."""

import doctest
import unittest

RESTS = """
>>> from restkeepers.rests import is_prime, is_rest, least_odd, root, sign_rest, two_squares, undone_rest
>>> [is_prime(9), is_rest(5, 5), undone_rest(7, 3), sign_rest(7, 3), root(7, 2), root(7, 3), least_odd(7), two_squares(7, 3)]
[False, False, 5, -1, 3, None, 3, (1, 3)]
"""

TABLES = """
>>> from restkeepers.tables import about, determinant, idle, is_row, is_table, led_row, times, undone
>>> table = [[1, 2], [0, 3]]
>>> [times(5, table, ((0, 1), (1, 0))), led_row(5, [1, 1], table), about(5, table), determinant(5, table), undone(5, table), idle(1)]
[((2, 1), (3, 0)), (1, 0), ((1, 0), (2, 3)), 3, ((1, 1), (0, 2)), ((1,),)]
>>> [is_row(3, (0, 2)), is_row(3, [3]), is_table(5, [[1]]), is_table(5, [[1, 2]]), is_table(3, ()), determinant(3, ())]
[True, False, True, False, True, 1]
"""

STEPS = """
>>> from restkeepers.steps import made_of, rank, steps, zeros
>>> rows = [[1, 2, 0], [2, 1, 1], [0, 0, 2]]
>>> [steps(3, 3, rows), rank(3, 3, rows), zeros(3, 3, rows), made_of(3, 3, rows, [2, 1, 2]), made_of(3, 3, rows, (0, 1, 0)), zeros(3, 2, [])]
[[(1, 2, 0), (0, 0, 1)], 2, [(1, 1, 0)], [2, 2], None, [(1, 0), (0, 1)]]
"""

ROOMS = """
>>> from restkeepers.rooms import Room
>>> cross, flat = Room(3, [[1, 0], [0, 2]]), Room(3, [[1, 1], [1, 1]])
>>> [cross.worth([1, 1]), cross.between((1, 2), (0, 1)), cross.rank, flat.rank, flat.still(), cross.led([[1, 1], [0, 1]])]
[0, 1, 2, 1, [(1, 2)], Room(3, ((0, 2), (2, 2)))]
>>> [Room(5, []).size, Room(5, []).rank, Room(5, ()).still(), Room(7, [[0]]).still(), cross.rows()]
[0, 0, [], [(1,)], ((1, 0), (0, 2))]
"""

KEEPING = """
>>> from restkeepers.keeping import bend, is_bend, is_keeper, is_lead, is_still, right_angles
>>> [is_keeper(cross, [[2, 0], [0, 1]]), is_keeper(cross, [[0, 1], [1, 0]]), bend(cross, [[0, 1], [1, 0]]), is_bend(cross, [[0, 1], [1, 0]], (1, 1)), bend(flat, [[0, 1], [0, 1]]), is_keeper(flat, [[0, 1], [0, 1]])]
[True, False, (0, 0), True, None, False]
>>> [is_lead(Room(3, [[1, 0], [0, 1]]), Room(3, [[2, 0], [0, 2]]), ((1, 1), (1, 2))), is_still(flat, (1, 2)), right_angles(cross, [[1, 1]]), right_angles(flat, [(1, 2)]), right_angles(cross, [])]
[True, True, [(1, 1)], [(1, 0), (0, 1)], [(1, 0), (0, 1)]]
"""

PLAIN = """
>>> from restkeepers.plain import kind_of, plain_by, plain_lead, plain_room, squares_lead
>>> from restkeepers.rooms import Room
>>> pair, odd = Room(3, ((0, 1), (1, 0))), Room(7, ((3, 0, 0), (0, 0, 0), (0, 0, 3)))
>>> [kind_of(pair), plain_room(pair).rows(), kind_of(odd), plain_room(odd).rows(), kind_of(Room(5, ())), plain_by(5, (2, 1, -1)).rows(), odd.led(plain_lead(odd)) == plain_room(odd)]
[(2, 2, -1), ((1, 0), (0, 2)), (3, 2, 1), ((1, 0, 0), (0, 1, 0), (0, 0, 0)), (0, 0, 1), ((2, 0), (0, 0)), True]
"""

LIKENESS = """
>>> from restkeepers.likeness import alike, lead
>>> ones, twos = Room(3, ((1, 0), (0, 1))), Room(3, ((2, 0), (0, 2)))
>>> [alike(ones, twos), twos.led(lead(ones, twos)) == ones, alike(ones, pair), lead(ones, pair), alike(ones, Room(5, ((1, 0), (0, 1))))]
[True, True, False, None, False]
"""

PARTS = """
>>> from restkeepers.parts import beside_part, is_part, meeting, own_room, part_of, still_in, sum_of
>>> from restkeepers.rooms import Room
>>> ball, flat = Room(3, [[1, 0, 0], [0, 1, 0], [0, 0, 1]]), Room(3, [[1, 0], [0, 0]])
>>> [part_of(ball, [[2, 2, 2], [1, 1, 1]]), is_part(ball, [[1, 1, 1]]), is_part(ball, [[2, 0, 0]]), is_part(ball, []), own_room(ball, [(1, 0, 2), (0, 1, 2)]), still_in(flat, [(1, 0), (0, 1)]), still_in(Room(3, [[1, 1], [1, 1]]), [(1, 0), (0, 1)])]
[[(1, 1, 1)], True, False, True, Room(3, ((2, 1), (1, 2))), [(0, 1)], [(1, 2)]]
>>> [sum_of(ball, [(1, 0, 0)], [(1, 1, 0)]), meeting(ball, [(1, 0, 0), (0, 1, 0)], [(0, 1, 0), (0, 0, 1)]), meeting(flat, [(1, 0)], [(1, 1)]), sum_of(ball, [(1, 1, 1)], beside_part(ball, [(1, 1, 1)]))]
[[(1, 0, 0), (0, 1, 0)], [(0, 1, 0)], [], [(1, 0, 0), (0, 1, 0), (0, 0, 1)]]
"""

KINDS = """
>>> from restkeepers.kinds import alike_parts, is_kind, kinds, part_by, part_kind
>>> [part_kind(ball, [(1, 1, 1)]), part_kind(flat, [(0, 1)]), part_kind(flat, [(1, 1)]), part_kind(ball, []), is_kind(ball, (2, 0, 1, 0)), alike_parts(ball, [(1, 0, 0)], [(0, 0, 1)])]
[(1, 0, 1, 0), (1, 0, 1, 1), (1, 1, 1, 0), (0, 0, 1, 0), False, True]
>>> [kinds(flat), part_kind(ball, part_by(ball, (2, 1, -1, 0))), len(kinds(ball))]
[[(0, 0, 1, 0), (1, 0, 1, 1), (1, 1, 1, 0), (2, 1, 1, 1)], (2, 1, -1, 0), 8]
"""

MAPS = """
>>> from restkeepers.maps import bar, goes_on, images_by, is_bar
>>> from restkeepers.rooms import Room
>>> ball, flat = Room(3, [[1, 0, 0], [0, 1, 0], [0, 0, 1]]), Room(3, [[0, 1, 0], [1, 0, 0], [0, 0, 0]])
>>> [goes_on(ball, [(1, 1, 1)], [(1, 1, 2)]), bar(ball, [(1, 1, 1)], [(1, 0, 0)]), is_bar(flat, [(1, 0, 0)], [(0, 0, 1)], ("still", [2])), is_bar(ball, [(1, 0, 0)], [[0, 0, 0]], ("lost", [1]))]
[True, ('between', 0, 0), True, True]
"""

GOING = """
>>> from restkeepers.going import continues, keeper_on, leads_part, part_lead
>>> [continues(ball, [(1, 1, 1)], [(1, 1, 2)], [[1, 0, 0], [0, 1, 0], [0, 0, 2]]), keeper_on(flat, [(1, 0, 0)], [(0, 0, 1)]), continues(flat, [(1, 0, 0)], [(2, 0, 1)], keeper_on(flat, [(1, 0, 0)], [(2, 0, 1)]))]
[True, None, True]
>>> [leads_part(ball, [(1, 1, 1)], [(1, 2, 1)], part_lead(ball, [(1, 1, 1)], [(1, 2, 1)])), part_lead(ball, [(1, 0, 0)], [(1, 1, 0)]), part_lead(ball, [], []) is None]
[True, None, False]
"""

NOUGHTS = """
>>> from restkeepers.noughts import greatest_nought, is_greatest, is_nought, nought_row, nought_size
>>> from restkeepers.rooms import Room
>>> cross, plane = Room(5, [[1, 0, 0], [0, 1, 0], [0, 0, 0]]), Room(3, [[1, 0], [0, 1]])
>>> [is_nought(cross, [(1, 2, 0)]), is_nought(cross, [(1, 0, 0)]), nought_size(cross), nought_size(plane), nought_row(plane), greatest_nought(cross, [(1, 2, 0)])]
[True, False, 2, 0, None, [(1, 2, 0), (0, 0, 1)]]
>>> [is_greatest(cross, [(1, 3, 0), (0, 0, 1)]), is_greatest(cross, [(0, 0, 1)]), is_greatest(plane, []), is_greatest(cross, greatest_nought(cross, [])), cross.worth(nought_row(cross))]
[True, False, True, True, 0]
"""

PAIRS = """
>>> from restkeepers.pairs import is_pair_rows, pair_count, pair_rows, same_sort
>>> [pair_count(cross), pair_count(plane), is_pair_rows(cross, ([((1, 2, 0), (3, 4, 0))], [], [(0, 0, 1)])), is_pair_rows(cross, pair_rows(cross)), is_pair_rows(plane, ([], [(1, 0), (0, 1)], []))]
[1, 0, True, True, True]
>>> [same_sort(cross, [(1, 2, 0), (0, 0, 1)], [(1, 3, 0), (0, 0, 1)]), same_sort(cross, [(1, 2, 0), (0, 0, 1)], [(1, 2, 0), (0, 0, 1)]), is_pair_rows(cross, ([((1, 2, 0), (2, 1, 0))], [], [(0, 0, 1)]))]
[False, True, False]
"""

ROWCOUNTS = """
>>> from restkeepers.rooms import Room
>>> from restkeepers.rowcounts import row_count, rows_of, worth_counts
>>> floor, wall = Room(3, [[1, 0], [0, 1]]), Room(5, [[0, 1, 0], [1, 0, 0], [0, 0, 0]])
>>> [worth_counts(floor), rows_of(floor, 1), worth_counts(wall), row_count(Room(7, ()), 0)]
[[1, 4, 4], [(0, 1), (0, 2), (1, 0), (2, 0)], [45, 20, 20, 20, 20], 1]
"""

FRAMES = """
>>> from restkeepers.frames import a_frame, frame_count, frames, is_frame
>>> [frame_count(floor, [[1, 0], [0, 2]]), frame_count(floor, [[1, 0], [0, 1]]), is_frame(floor, [[2]], [[1, 2]]), is_frame(floor, [[2]], ((1, 0),)), a_frame(floor, [[0]])]
[0, 8, True, False, None]
>>> [frame_count(wall, [[0, 1], [1, 0]]), frame_count(wall, [[0]]), is_frame(wall, [[0]], [(0, 0, 1)]), len(frames(floor, [[1, 0], [0, 1]])), frames(wall, ())]
[200, 40, False, 8, [[]]]
"""

PARTCOUNTS = """
>>> from restkeepers.partcounts import fixing_count, holding_count, keeper_count, part_count, parts_with
>>> from restkeepers.rooms import Room
>>> square, three, flat = Room(3, ((1, 0), (0, 1))), Room(3, ((1, 0, 0), (0, 1, 0), (0, 0, 1))), Room(3, ((1, 0), (0, 0)))
>>> [keeper_count(room) for room in [square, Room(3, ((1, 0), (0, 2))), three, flat, Room(5, ())]]
[8, 4, 48, 12, 1]
>>> [[part_count(three, kind) for kind in [(1, 0, 1, 0), (1, 1, 1, 0), (1, 1, -1, 0), (2, 0, 1, 0)]], parts_with(flat, (1, 1, 1, 0)), parts_with(flat, (1, 0, 1, 1)), holding_count(three, [(1, 1, 1)]), fixing_count(three, [(1, 1, 1)])]
[[4, 3, 6, 0], [[(1, 0)], [(1, 1)], [(1, 2)]], [[(0, 1)]], 12, 6]
"""

BESIDE = """
>>> from restkeepers.beside import beside, scaled, taken_off
>>> [beside(square, flat).rows(), scaled(square, 2).rows(), taken_off(three, square).rows(), taken_off(square, Room(3, ((0, 1), (1, 0)))), taken_off(flat, flat) == Room(3, ())]
[((1, 0, 0, 0), (0, 1, 0, 0), (0, 0, 1, 0), (0, 0, 0, 0)), ((2, 0), (0, 2)), ((1,),), None, True]
"""

TEXTS = """
>>> from restkeepers.rooms import Room
>>> from restkeepers.texts import is_of_sort, written
>>> [written("room", Room(5, [[1, 2], [2, 0]])), written("row", (3, [1, 0])), written("part", (3, 2, [[1, 2]])), written("kind", (2, 1, -1)), is_of_sort("part", (3, 2, [[2, 1]]))]
['room 5\\nline 1 2\\nline 2 0\\n', 'row 3 1 0\\n', 'part 3 2\\nline 1 2\\n', 'kind 2 1 -1\\n', False]
>>> [written("bar", ("between", 0, 1)), written("bar", ("lost", [1, 2])), written("table", (7, [])), is_of_sort("bar", ("lost", [0, 0]))]
['bar between 0 1\\n', 'bar lost 1 2\\n', 'table 7\\n', False]
"""

READERS = """
>>> from restkeepers.readers import read
>>> [read("row 3 1 0\\n"), read("table 5\\nline 1\\n"), read("part 3 2\\n"), read("kind 2 1 -1 0\\n"), read("room 3\\n") == ("room", Room(3, []))]
[('row', (3, (1, 0))), ('table', (5, ((1,),))), ('part', (3, 2, [])), ('kind', (2, 1, -1, 0)), True]
"""

CLAIMS = """
>>> from restkeepers.claims import contrary, is_claim, is_paper_of, is_true
>>> flat, turned = Room(3, [[1, 0], [0, 1]]), Room(3, [[1, 0], [0, 2]])
>>> [is_true(("alike", flat, turned)), is_paper_of(("unlike", flat, turned), ((2, 2, 1), (2, 2, -1))), is_paper_of(("bends", flat, [[1, 1], [0, 1]]), (0, 0)), contrary(("keeps", flat, ((0, 1), (1, 0)))) == ("bends", flat, ((0, 1), (1, 0)))]
[False, True, True, True]
>>> [is_paper_of(("goes", flat, [[1, 0]], [[0, 2]]), [[0, 2], [1, 0]]), is_paper_of(("barred", flat, [[1, 0]], [[1, 1]]), ("between", 0, 0)), is_true(("nought", turned, [[1, 1]])), is_true(("led", flat, [[1, 0]], [[1, 1]])), is_claim(("nought", flat, [[2, 0]]))]
[True, True, True, False, False]
"""

COMMANDS = """
>>> from restkeepers.commands import is_command, is_deed
>>> [is_command("room v 3 1,0 0,1"), is_command("room v 3 1, 0"), is_deed("claim k goes v p q"), is_command("rows p 3"), is_deed("undo")]
[True, False, True, True, False]
"""

DESK = """
>>> from restkeepers.desk import Desk
>>> desk = Desk()
>>> desk.do_all("room v 3 1,0,0 0,1,0 0,0,1", "rows p 3 1,1,1", "rows q 3 1,2,1", "claim k led v p q", "worth v 1,1,1", "keepers v", "partkind v p", "claim n nought v p", "rowcount v 0")
['-', '-', '-', 'k true', '0', '48', '1 0 1 0', 'n true', '9']
>>> desk.do_all("row q 0 1,0,0", "undo", "entry v 2 2 0", "states", "show v", "undo", "state k", "kind v", "names")
['k false', 'row q 0 1,0,0', 'n false', 'k true, n false', '3 1,0,0 0,1,0 0,0,0', 'entry v 2 2 0', 'true', '3 3 1', 'p q v']
"""

# In their sequence: names stand for what they were in the last example that gave them.
EXAMPLES = [("rests", RESTS), ("tables", TABLES), ("steps", STEPS), ("rooms", ROOMS), ("keeping", KEEPING),
            ("plain", PLAIN), ("likeness", LIKENESS), ("parts", PARTS), ("kinds", KINDS), ("maps", MAPS),
            ("going", GOING), ("noughts", NOUGHTS), ("pairs", PAIRS), ("rowcounts", ROWCOUNTS),
            ("frames", FRAMES), ("partcounts", PARTCOUNTS), ("beside", BESIDE), ("texts", TEXTS),
            ("readers", READERS), ("claims", CLAIMS), ("commands", COMMANDS), ("desk", DESK)]


class Examples(unittest.TestCase):

    def test_all(self):
        names, lines = {}, []
        runner = doctest.DocTestRunner(verbose=False)
        for word, text in EXAMPLES:
            test = doctest.DocTestParser().get_doctest(text, names, word, None, None)
            self.assertGreater(len(test.examples), 1)
            runner.run(test, out=lines.append, clear_globs=False)
            names = test.globs
        self.assertEqual("".join(lines), "")


if __name__ == "__main__":
    unittest.main()

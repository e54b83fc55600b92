"""Written forms read: the value again, or the number of the wrong line."""

import re
import unittest

from restkeepers.errors import InvalidText
from restkeepers.readers import read
from restkeepers.rooms import Room
from restkeepers.texts import written
from tests.cases import Case
from tests.listing import tuples
from tests.reckon import NO_KIND, PRIMES, Numbers, in_steps
from tests.sorting import SORTS, lined, values_of

COUNT = r"(?:0|[1-9][0-9]*)"
ONE_LINE = [(rf"row (?:{'|'.join(map(str, PRIMES))})(?: {COUNT})" + r"{0,6}", "row"),
            (r"kind [0-6] [0-6] -?1(?: [0-6])?", "kind"), (r"bar between [0-5] [0-5]", "between"),
            (rf"bar (?:lost|still)(?: {COUNT})" + r"{1,6}", "rests")]


def numbers(line):
    return [int(word) for word in line.split(" ") if re.fullmatch(r"-?[0-9]+", word)]


def is_whole(line):
    """Whether the line alone is a form of one line."""
    for form, sort in ONE_LINE:
        if re.fullmatch(form, line):
            told = numbers(line)
            if sort == "row":
                return all(rest < told[0] for rest in told[1:])
            if sort == "between":
                return told[0] <= told[1]
            return sort == "kind" or max(told) <= 12 and max(told) > 0
    return False


def begins(lines):
    """Whether some written form begins with these lines, by the words of [91]."""
    if is_whole(lines[0]):
        return len(lines) == 1
    head = re.fullmatch(r"(room|table) (3|5|7|11|13)|(part) (3|5|7|11|13) ([0-6])", lines[0])
    if not head or not all(re.fullmatch(rf"line(?: {COUNT})+", line) for line in lines[1:]):
        return False
    told, rows = numbers(lines[0]), [numbers(line) for line in lines[1:]]
    if not all(rest < told[0] for row in rows for rest in row):
        return False
    if head[3]:
        return all(len(row) == told[1] for row in rows) and in_steps(rows)
    if not all(len(rows) <= len(row) <= 6 and len(row) == len(rows[0]) for row in rows):
        return False
    many = range(len(rows))
    return head[1] == "table" or all(rows[i][j] == rows[j][i] for i in many for j in many)


def lacks(lines):
    """Whether lines that begin a form are none yet."""
    return lines[0].split(" ")[0] in ("room", "table") and len(lines) > 1 and len(lines) - 1 < len(numbers(lines[1]))


def wrong_line(text):
    """The number of the wrong line; None for a written form."""
    *lines, tail = text.split("\n")
    for number in range(1, len(lines) + 1):
        if not begins(lines[:number]):
            return number
    if tail or not lines or lacks(lines):
        return len(lines) + 1
    return None


def texts():
    """Some written forms of every sort."""
    found = []
    for sort in SORTS:
        made = [text for _, text in values_of(sort)]
        found += made[::max(1, len(made) // 25)]
    return found


def edits(text, numbers_drawn):
    """Texts with one place otherwise."""
    signs = "0123456789 \n-,+lrx"
    for at in range(len(text) + 1):
        drawn = [signs[numbers_drawn.below(len(signs))] for _ in range(3)] + ["\n", " ", "0"]
        for sign in drawn:
            yield text[:at] + sign + text[at:]
            yield text[:at] + sign + text[at + 1:]
        yield text[:at] + text[at + 1:]
        yield text[:at] + text[at:at + 1] + text[at:]
        yield text[:at] + text[at + 1:at + 2] + text[at:at + 1] + text[at + 2:]
        yield text[:at]
        yield text[at:]


def word_edits(text):
    """Texts with a word or a line left out, doubled, put in, exchanged."""
    lines = text.split("\n")[:-1]
    for at, line in enumerate(lines):
        words = line.split(" ")
        others = [words[:at] + words[at + 1:] for at in range(len(words))]
        others += [words[:at] + [word] + words[at:] for at in range(len(words) + 1) for word in ("0", "1", "line", "3", "")]
        others += [words[:at] + [word] + words[at + 1:] for at in range(len(words))
                   for word in ("0", "1", "2", "7", "12", "13", "-1", "01", "+1", "00", "room", "row", "line", "Line", "9" * 30)]
        for other in others:
            yield "\n".join(lines[:at] + [" ".join(other)] + lines[at + 1:]) + "\n"
        yield "".join(one + "\n" for one in lines[:at] + lines[at + 1:])
        yield "".join(one + "\n" for one in lines[:at] + [line] + lines[at:])
        yield "".join(one + "\n" for one in lines[:at] + ["line 0 0"] + lines[at:])
        yield "".join(one + "\n" for one in lines[:at] + lines[at + 1:] + [line])
        yield "".join(one + "\r\n" for one in lines)


class Read(Case):

    def judged_by_line(self, text):
        wanted = wrong_line(text)
        if wanted is None:
            sort, value = read(text)
            self.assertEqual(written(sort, value), text)
        else:
            got = self.raised(InvalidText, read, text)
            self.assertEqual((type(got.line), got.line), (int, wanted), text)

    def test_every_sort_again(self):
        for sort in SORTS:
            for value, text in values_of(sort):
                self.assertIsNone(wrong_line(text))
                got = self.told(read, text=text)
                self.assertTrue(type(got) is tuple and len(got) == 2)
                self.assertEqual(got[0], sort)
                self.same(written(*got), text)
                if sort == "room":
                    self.assertIs(type(got[1]), Room)
                    self.assertEqual(got[1], value)
                elif sort in ("row", "table"):
                    prime, rows = value
                    self.same(got[1], (prime, tuple(rows) if sort == "row" else tuples(rows)))
                elif sort == "part":
                    self.same(got[1], (value[0], value[1], [tuple(row) for row in value[2]]))
                elif sort == "bar" and value[0] != "between":
                    self.same(got[1], (value[0], list(value[1])))
                else:
                    self.same(got[1], value)

    def test_lists_are_new(self):
        for text in ["part 3 2\nline 1 0\n", "bar lost 1 2\n"]:
            kept = repr(read(text))
            read(text)[1][-1].clear()
            self.assertEqual(repr(read(text)), kept)

    def test_one_place_otherwise(self):
        drawn = Numbers(5)
        for text in texts():
            for other in edits(text, drawn):
                self.judged_by_line(other)

    def test_words_and_lines_otherwise(self):
        for text in texts():
            for other in word_edits(text):
                self.judged_by_line(other)

    def test_two_texts_joined(self):
        found = texts()
        for first in found[::4]:
            for second in found[::5]:
                self.judged_by_line(first + second)
                self.judged_by_line(first[:-1] + second)
                self.judged_by_line(first + "\n" + second)

    def test_named_ones(self):
        for text, line in [
                ("", 1), ("\n", 1), ("\n\n", 1), (" ", 1), ("room", 1), ("room\n", 1), ("room 5", 1), ("room 5 \n", 1),
                (" room 5\n", 1), ("room  5\n", 1), ("room 4\n", 1), ("room 05\n", 1), ("room +5\n", 1), ("room 17\n", 1),
                ("room 5 0\n", 1), ("Room 5\n", 1), ("line 1\n", 1), ("table 5\nline 0 1\n", 3), ("table 5\nline 0 1", 2),
                ("table 5\nline 0 1\nline 1 1", 3), ("table 5\nline 0 1\nline 1 1\nline 0 0\n", 4),
                ("table 5\nline 0 1\nline 1 1\n\n", 4), ("table 5\nline 0 1\nline 1\n", 3), ("table 5\nline\n", 2),
                ("table 5\nline 0 1\nline 1 5\n", 3), ("table 5\nline 0 1\nline 1 01\n", 3), ("table 5\nline 5\n", 2),
                ("table 5\nline 1 1 1 1 1 1 1\n", 2), ("room 5\nline 0 1\nline 2 0\n", 3), ("room 5\nline 0 1\n", 3),
                ("room 5\nline 0 1 2\nline 1 0 0\nline 2 1 0\n", 4), ("room 5\nlines 0\n", 2), ("room 5\nline 0\nline 0\n", 3),
                ("part 5\n", 1), ("part 5 7\n", 1), ("part 5 2 1\n", 1), ("part 5 2\nline 2 0\n", 2), ("part 5 0\nline\n", 2),
                ("part 5 2\nline 0 0\n", 2), ("part 5 2\nline 0 1\nline 1 0\n", 3), ("part 5 2\nline 1 1\nline 0 1\n", 3),
                ("part 5 2\nline 1 0\nline 0 1\nline 0 0\n", 4), ("part 5 2\nline 1\n", 2), ("part 5 2\nline 1 0", 2),
                ("row\n", 1), ("row 3 3\n", 1), ("row 3 0 0 0 0 0 0 0\n", 1), ("row 3 1\n\n", 2), ("row 3 1\nrow 3 1\n", 2),
                ("row 3 1\nx", 2), ("row 3 1\nline 1\n", 2), ("row 9 1\n", 1), ("row 3 -1\n", 1), ("row 3 1 \n", 1),
                ("kind 1 1\n", 1), ("kind 1 1 0\n", 1), ("kind 7 1 1\n", 1), ("kind 1 1 1 7\n", 1), ("kind 1 1 1 1 1\n", 1),
                ("kind 1 1 +1\n", 1), ("kind 1 1 01\n", 1), ("kind -1 1 1\n", 1), ("kind 1 1 1\n ", 2), ("kind\n", 1),
                ("bar\n", 1), ("bar lost\n", 1), ("bar lost 0 0\n", 1), ("bar lost 13\n", 1), ("bar still 1 1 1 1 1 1 1\n", 1),
                ("bar between 1 0\n", 1), ("bar between 0 6\n", 1), ("bar between 0\n", 1), ("bar between 0 0 0\n", 1),
                ("bar gone 1\n", 1), ("bar lost 1\nbar lost 1\n", 2), ("bar  lost 1\n", 1), ("bar still 1", 1)]:
            self.assertEqual(self.raised(InvalidText, read, text).line, line, repr(text))
            self.assertEqual(self.raised(InvalidText, read, text=text).line, line, repr(text))
            self.assertEqual(wrong_line(text), line, repr(text))

    def test_forms_that_lack_none(self):
        for prime in PRIMES:
            self.assertEqual(read(f"room {prime}\n"), ("room", Room(prime, ())))
            self.same(read(f"table {prime}\n"), ("table", (prime, ())))
            self.same(read(f"row {prime}\n"), ("row", (prime, ())))
            for size in range(7):
                self.same(read(f"part {prime} {size}\n"), ("part", (prime, size, [])))

    def test_the_wrong_line_of_long_forms(self):
        for prime in PRIMES:
            for size in range(1, 7):
                table = Numbers(size).symmetric(prime, size)
                lines = lined(["room", prime], table).split("\n")[:-1]
                for at in range(size):
                    # A rest that is none, a row that is too long, and from the second row on one that is not symmetric.
                    wrong = [table[at][:-1] + [prime], table[at] + [0], table[at][:-1]]
                    wrong += [[(table[at][0] + 1) % prime] + table[at][1:]] if at else []
                    for row in wrong:
                        if at == 0 and len(row) in range(1, 7) and len(row) != size and prime not in row:
                            continue
                        other = lines[:at + 1] + [" ".join(map(str, ["line"] + row))] + lines[at + 2:]
                        got = self.raised(InvalidText, read, "".join(line + "\n" for line in other))
                        self.assertEqual(got.line, at + 2)
                    got = self.raised(InvalidText, read, "".join(line + "\n" for line in lines[:at + 1])) if at else None
                    self.assertTrue(got is None or got.line == at + 2)

    def test_no_string(self):
        for value in NO_KIND + [0, 1, 10 ** 29, [], (), ["row 3\n"], ("row", (3, ())), [["room 3\n"]], Room(3, ())]:
            if type(value) is not str:
                got = self.raised(InvalidText, read, value)
                self.assertEqual((type(got.line), got.line), (int, 0))
                self.assertEqual(self.raised(InvalidText, read, text=value).line, 0)
        for value in ["1", "3", "(0, 1)", "x" * 4000, "9" * 4000, "row 3 " + "9" * 3000 + "\n", "\n" * 4000, "room 3\n" * 500]:
            self.assertEqual(self.raised(InvalidText, read, value).line, 2 if value[:7] == "room 3\n" else 1)


if __name__ == "__main__":
    unittest.main()

"""Names and commands by their words alone."""

import unittest

from restkeepers.commands import is_command, is_deed, is_name
from restkeepers.rooms import Room
from tests.cases import Case
from tests.commanding import BAD, DEEDS, FORMS, GOOD, NAME, OTHERS, ROW, examples, plain_command, plain_deed
from tests.reckon import NO_KIND

NO_STRINGS = [value for value in NO_KIND if type(value) is not str] + [0, 1, [], (), ["undo"], ("undo",), [["names"]],
                                                                        Room(3, ()), 10 ** 29, ["room", "v", "3"], b"undo"]


class Names(Case):

    def test_names(self):
        for value in GOOD[NAME] + list("abcxyz") + ["a0", "claim", "z" * 8, "a1b2c3d4"]:
            self.judged(True, value, is_name, value)
            self.assertIs(is_name(value=value), True)

    def test_no_names(self):
        for value in BAD[NAME] + NO_STRINGS + ["z" * 9, "0", "9a", " a", "a ", "a b", "Aa", "aA", "a" * 4000, "a\n"]:
            self.judged(False, value, is_name, value)

    def test_each_sign(self):
        for number in range(32, 127):
            sign = chr(number)
            if sign != "%":
                self.judged(sign in "abcdefghijklmnopqrstuvwxyz", sign, is_name, sign)
                self.judged(sign in "abcdefghijklmnopqrstuvwxyz0123456789", sign, is_name, "a" + sign)


class Commands(Case):

    def judged_by_words(self, value):
        self.judged(plain_command(value), value, is_command, value)
        self.judged(plain_deed(value), value, is_deed, value)

    def test_each_of_both_tables(self):
        for told in DEEDS + OTHERS:
            for words in examples(told):
                value = " ".join(words)
                self.assertIs(self.told(is_command, value=value), True, value)
                self.assertIs(self.told(is_deed, value=value), told in DEEDS, value)
                self.assertTrue(plain_command(value))

    def test_words_left_out_put_in_exchanged(self):
        for told in DEEDS + OTHERS:
            for words in examples(told):
                if len(words) > 12:
                    continue
                for at in range(len(words) + 1):
                    self.judged_by_words(" ".join(words[:at] + words[at + 1:]))
                    for more in ["v", "1", "-1", "-", "1,0", "0", "room", "alike", "", ".."]:
                        self.judged_by_words(" ".join(words[:at] + [more] + words[at:]))
                        self.judged_by_words(" ".join(words[:at] + [more] + words[at + 1:]))
                    self.judged_by_words(" ".join(words[:at] + words[at:at + 1] + words[at:]))
                    self.judged_by_words(" ".join(words[:at] + words[at + 1:at + 2] + words[at:at + 1] + words[at + 2:]))

    def test_blanks(self):
        for told in DEEDS + OTHERS:
            for words in examples(told):
                value = " ".join(words)
                for other in [" " + value, value + " ", value.replace(" ", "  ", 1), "  ".join(words), value.replace(" ", "", 1),
                              value + "\n", "\n" + value, value.replace(" ", "\n", 1), value.upper(), value.title(),
                              value.replace(" ", ",", 1), value + "\n" + value, value + " " + value]:
                    self.judged_by_words(other)
                    self.judged(other == value, other, is_command, other)

    def test_bad_words_at_each_place(self):
        for told in DEEDS + OTHERS:
            kinds = told.split(" ")
            if kinds[-1] == "..":
                kinds = kinds[:-1]
            for turn, words in enumerate(examples(told)):
                for at, kind in enumerate(kinds[:len(words)]):
                    if kind not in FORMS:
                        continue
                    for bad in BAD[FORMS[kind]]:
                        value = " ".join(words[:at] + [bad] + words[at + 1:])
                        self.judged(False, value, is_command, value)
                        self.judged(False, value, is_deed, value)
                    if turn == 0:
                        for good in GOOD[FORMS[kind]]:
                            value = " ".join(words[:at] + [good] + words[at + 1:])
                            self.judged(True, value, is_command, value)

    def test_unknown_words(self):
        for word in ["", "Room", "rooms", "roo", "rows..", "claims", "alike", "goes", "help", "show-", "un", "states2"]:
            for behind in ["", " v", " v 3", " v w", " k alike v w", " v p q"]:
                self.judged(False, word + behind, is_command, word + behind)
        for word in ["alike", "unlike", "keeps", "bends", "goes", "barred", "nought", "worthy", "led", "apart", "like", "room", ""]:
            for many in range(5):
                self.judged_by_words(" ".join(["claim", "k", word] + ["v", "p", "q", "r"][:many]))
        for value in ["claim", "claim k", "claim k alike", "claim alike v w", "claim 1 alike v w", "claim k Alike v w"]:
            self.judged(False, value, is_command, value)

    def test_forty_rows_and_one_more(self):
        for word in ["room", "table", "rows"]:
            for row in GOOD[ROW]:
                for many in (0, 1, 39, 40, 41, 42, 100):
                    value = f"{word} v 3" + f" {row}" * many
                    self.judged(many <= 40, value, is_command, value)
                    self.judged(many <= 40, value, is_deed, value)
                for at in range(3):
                    rows = [row] * 3
                    for bad in BAD[ROW]:
                        value = " ".join([word, "v", "3"] + rows[:at] + [bad] + rows[at + 1:])
                        self.judged(False, value, is_command, value)
        for value in ["row p 0", "row p 0 1 1", "worth v", "worth v 1 1", "between v 1", "between v 1 1 1"]:
            self.judged(False, value, is_command, value)

    def test_no_strings(self):
        for value in NO_STRINGS:
            self.judged(False, value, is_command, value)
            self.judged(False, value, is_deed, value)
            self.judged(False, value, is_name, value)


if __name__ == "__main__":
    unittest.main()

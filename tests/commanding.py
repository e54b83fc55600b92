"""The words of all commands, by the two tables of [98], and commands that are none."""

import re

NAME = r"[a-z][a-z0-9]{0,7}"
COUNT = r"(?:0|[1-9][0-9]?)"
ROW = rf"(?:-|{COUNT}(?:,{COUNT}){{0,5}})"
SIGN = r"(?:-1|0|1)"
FORMS = {"NEW": NAME, "ROOM": NAME, "TABLE": NAME, "ROWS": NAME, "OTHER": NAME, "NAME": NAME, "LABEL": NAME,
         "PRIME": COUNT, "COUNT": COUNT, "REST": COUNT, "SIGN": SIGN, "ROW": ROW}
DEEDS = ["room NEW PRIME ROW ..", "plain NEW PRIME COUNT COUNT SIGN", "led NEW ROOM TABLE", "own NEW ROOM ROWS",
         "plainof NEW ROOM", "beside NEW ROOM OTHER", "scaled NEW ROOM REST", "taken NEW ROOM OTHER",
         "table NEW PRIME ROW ..", "idle NEW COUNT", "times NEW PRIME TABLE OTHER", "undone NEW PRIME TABLE",
         "lead NEW ROOM OTHER", "keeper NEW ROOM ROWS OTHER", "partlead NEW ROOM ROWS OTHER", "rows NEW PRIME ROW ..",
         "part NEW ROOM ROWS", "angles NEW ROOM ROWS", "still NEW ROOM", "sumof NEW ROOM ROWS OTHER",
         "meeting NEW ROOM ROWS OTHER", "images NEW ROOM ROWS TABLE", "partby NEW ROOM COUNT COUNT SIGN COUNT",
         "greatest NEW ROOM ROWS", "entry ROOM COUNT COUNT REST", "row ROWS COUNT ROW", "drop NAME",
         "claim LABEL alike ROOM OTHER", "claim LABEL unlike ROOM OTHER", "claim LABEL keeps ROOM TABLE",
         "claim LABEL bends ROOM TABLE", "claim LABEL goes ROOM ROWS OTHER", "claim LABEL barred ROOM ROWS OTHER",
         "claim LABEL nought ROOM ROWS", "claim LABEL worthy ROOM ROWS", "claim LABEL led ROOM ROWS OTHER",
         "claim LABEL apart ROOM ROWS OTHER", "forget LABEL"]
OTHERS = ["undo", "redo", "state LABEL", "states", "claimed LABEL", "names", "show NAME", "kind ROOM", "partkind ROOM ROWS",
          "worth ROOM ROW", "between ROOM ROW ROW", "rowcount ROOM REST", "worths ROOM", "framecount ROOM TABLE",
          "keepers ROOM", "fixing ROOM ROWS", "holding ROOM ROWS", "partcount ROOM COUNT COUNT SIGN COUNT", "noughts ROOM",
          "pairs ROOM", "determinant PRIME TABLE", "same NAME OTHER"]
# For each kind of word some that are, and some that are none.
GOOD = {NAME: ["v", "a", "z9", "abcdefgh", "x1234567", "room", "undo", "k"],
        COUNT: ["0", "3", "9", "10", "13", "99"],
        SIGN: ["1", "0", "-1"],
        ROW: ["-", "0", "1,0", "1,2,3,4,5,6", "99,10,0", "12"]}
BAD = {NAME: ["", "abcdefghi", "1a", "A", "aB", "a_b", "a-b", "a.", "-", "9", "a,b", "a\n", "\na", "\t"],
       COUNT: ["", "00", "01", "100", "999", "-1", "+1", "1,2", "a", "1.", "x", "-", "1\n", "0x1", "1_0"],
       SIGN: ["", "2", "+1", "-0", "01", "-01", "--1", "1,1", "a", "-", "10", "-1\n"],
       ROW: ["", ",", "1,", ",1", "1,,2", "1,2,3,4,5,6,7", "-,-", "1,-", "-1", "01", "1,01", "100", "1,100", "a", "1;2", "1, 2",
             "--", "0,0,0,0,0,0,0", "1,2\n", "1.2", "(1,2)", "+1"]}


def form_of(told):
    """The pattern of a line of the tables."""
    bits = []
    for word in told.split(" "):
        if word == "..":
            bits[-1] = rf"(?: {FORMS['ROW']}){{0,40}}"
        else:
            bits.append(" " + FORMS[word] if word in FORMS else (" " if bits else "") + word)
    return "".join(bits)


DEED_FORMS = [form_of(told) for told in DEEDS]
OTHER_FORMS = [form_of(told) for told in OTHERS]


def plain_deed(value):
    return type(value) is str and any(re.fullmatch(form, value) for form in DEED_FORMS)


def plain_command(value):
    return plain_deed(value) or type(value) is str and any(re.fullmatch(form, value) for form in OTHER_FORMS)


def examples(told):
    """Commands of a line of the tables: each word by the good ones of its kind, in turn."""
    words = told.split(" ")
    for turn in range(8):
        made = []
        for at, word in enumerate(words):
            if word == "..":
                made += [GOOD[ROW][(turn + more) % 6] for more in range((0, 1, 4, 39, 2, 12, 3, 20)[turn])]
            elif word in FORMS:
                good = GOOD[FORMS[word]]
                made.append(good[(turn + at) % len(good)])
            else:
                made.append(word)
        yield made
    if ".." in words:
        # No row at all.
        yield [GOOD[FORMS[word]][0] if word in FORMS else word for word in words[:-2]]

"""The commands of a desk by their words alone."""

from restkeepers.wording import TWO_DIGITS, told_count, told_counts, told_sign

LETTERS = "abcdefghijklmnopqrstuvwxyz"
NAME_SIGNS = "abcdefghijklmnopqrstuvwxyz0123456789"
MOST_SIGNS = 8
MOST_RESTS = 6
MOST_ROWS_TOLD = 40

# What stands behind the word of each deed: a new name, or the name of a thing of a kind ("room", "table", "rows", or
# "thing" for any); a label, new or noted; the word of a claim; a count, a sign, a row, or rows up to the end.
DEEDS = {
    "room": ("new", "count", "rows .."),
    "plain": ("new", "count", "count", "count", "sign"),
    "led": ("new", "room", "table"),
    "own": ("new", "room", "rows"),
    "plainof": ("new", "room"),
    "beside": ("new", "room", "room"),
    "scaled": ("new", "room", "count"),
    "taken": ("new", "room", "room"),
    "table": ("new", "count", "rows .."),
    "idle": ("new", "count"),
    "times": ("new", "count", "table", "table"),
    "undone": ("new", "count", "table"),
    "lead": ("new", "room", "room"),
    "keeper": ("new", "room", "rows", "rows"),
    "partlead": ("new", "room", "rows", "rows"),
    "rows": ("new", "count", "rows .."),
    "part": ("new", "room", "rows"),
    "angles": ("new", "room", "rows"),
    "still": ("new", "room"),
    "sumof": ("new", "room", "rows", "rows"),
    "meeting": ("new", "room", "rows", "rows"),
    "images": ("new", "room", "rows", "table"),
    "partby": ("new", "room", "count", "count", "sign", "count"),
    "greatest": ("new", "room", "rows"),
    "entry": ("room", "count", "count", "count"),
    "row": ("rows", "count", "row"),
    "drop": ("thing",),
    "claim": ("new label", "claim"),
    "forget": ("label",),
}
# What stands behind the words of the other commands; "like" is the name of a thing of the kind ahead of it.
OTHERS = {
    "undo": (),
    "redo": (),
    "state": ("label",),
    "states": (),
    "claimed": ("label",),
    "names": (),
    "show": ("thing",),
    "kind": ("room",),
    "partkind": ("room", "rows"),
    "worth": ("room", "row"),
    "between": ("room", "row", "row"),
    "rowcount": ("room", "count"),
    "worths": ("room",),
    "framecount": ("room", "table"),
    "keepers": ("room",),
    "fixing": ("room", "rows"),
    "holding": ("room", "rows"),
    "partcount": ("room", "count", "count", "sign", "count"),
    "noughts": ("room",),
    "pairs": ("room",),
    "determinant": ("count", "table"),
    "same": ("thing", "like"),
}
# What stands behind the words of claims.
CLAIMS = {
    "alike": ("room", "room"),
    "unlike": ("room", "room"),
    "keeps": ("room", "table"),
    "bends": ("room", "table"),
    "goes": ("room", "rows", "rows"),
    "barred": ("room", "rows", "rows"),
    "nought": ("room", "rows"),
    "worthy": ("room", "rows"),
    "led": ("room", "rows", "rows"),
    "apart": ("room", "rows", "rows"),
}


def is_name(value):
    """Whether any value is a name."""
    if not isinstance(value, str) or not 1 <= len(value) <= MOST_SIGNS or value[0] not in LETTERS:
        return False
    return all([letter in NAME_SIGNS for letter in value])


def is_command(value):
    """Whether any value is a string that is a command by its words alone."""
    return told_command(value) is not None


def is_deed(value):
    """Whether any value is a string that is a deed by its words alone."""
    told = told_command(value)
    return told is not None and told[0] in DEEDS


def told_command(value):
    """The word of the command, and a list of tuples of what is to stand behind it and what stands there; None if the
    value is no command.
    """
    if not isinstance(value, str):
        return None
    word, *words = value.split(" ")
    slots = DEEDS.get(word, OTHERS.get(word))
    if slots is None:
        return None
    if word == "claim" and len(words) > 1:
        # The things that a claim is about hang on its word.
        slots = slots + CLAIMS.get(words[1], ())
    told = told_words(slots, words)
    return None if told is None else (word, told)


def told_words(slots, words):
    """Tuples of each slot and what the word at its position tells; None if they do not fit."""
    if slots[-1:] == ("rows ..",):
        # All words from there on are rows, told as one list.
        many = len(slots) - 1
        ahead, rows = told_words(slots[:-1], words[:many]), [told_row(word) for word in words[many:]]
        if ahead is None or None in rows or len(rows) > MOST_ROWS_TOLD:
            return None
        return ahead + [("rows ..", rows)]
    if len(slots) != len(words):
        return None
    told = [told_word(slot, word) for slot, word in zip(slots, words)]
    return None if None in told else list(zip(slots, told))


def told_word(slot, word):
    """What the word tells in this slot; None if it does not stand there."""
    match slot:
        case "count":
            return told_count(word, TWO_DIGITS)
        case "sign":
            return told_sign(word)
        case "row":
            return told_row(word)
        case "claim":
            return word if word in CLAIMS else None
        case _:
            return word if is_name(word) else None


def told_row(word):
    """The list of the rests of the row; None if the word tells no row."""
    if word == "-":
        return []
    words = word.split(",")
    return told_counts(words, TWO_DIGITS) if len(words) <= MOST_RESTS else None

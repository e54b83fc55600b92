"""Written forms read again: the sort and the value, or the number of the wrong line."""

from restkeepers.checks import MOST_SIZE
from restkeepers.errors import InvalidText
from restkeepers.parts import fits_steps
from restkeepers.rooms import Room
from restkeepers.texts import is_of_sort
from restkeepers.wording import TWO_DIGITS, told_counts, told_sign


def read(text):
    """The sort and the value that has this written form."""
    if not isinstance(text, str):
        raise InvalidText(0)
    # Behind the last line feed nothing is to stand.
    *lines, tail = text.split("\n")
    head = told_head(lines[0].split(" ")) if lines else None
    if head is None:
        raise InvalidText(1)
    rows = []
    for at, line in enumerate(lines[1:]):
        row = told_row(head, line.split(" "))
        if row is None or not goes_behind(head, rows, row):
            raise InvalidText(at + 2)
        rows.append(tuple(row))
    if tail != "" or lacks_lines(head, rows):
        raise InvalidText(len(lines) + 1)
    return (head[0], value_of(head, rows))


def told_head(words):
    """The word of the sort and what the first line tells behind it; None if no written form begins so."""
    match words[0]:
        case "room" | "table" | "part":
            return told_beginning(words)
        case "row":
            return told_whole_row(words)
        case "kind":
            return told_kind(words)
        case "bar":
            return told_bar(words)
        case _:
            return None


def told_beginning(words):
    """The head of a form with further lines: its word, its prime, and the size if it is that of a part."""
    numbers = told_counts(words[1:], TWO_DIGITS)
    if numbers is None:
        return None
    # The head is right if it is that of a form without further lines.
    fits = is_of_sort("part", (*numbers, [])) if words[0] == "part" else is_of_sort("row", (*numbers, []))
    return (words[0], *numbers) if fits else None


def told_whole_row(words):
    """The word, and the value of the row."""
    numbers = told_counts(words[1:], TWO_DIGITS)
    if not numbers:
        return None
    return whole("row", (numbers[0], tuple(numbers[1:])))


def told_kind(words):
    """The word, and the kind."""
    if len(words) not in (4, 5):
        return None
    sign, numbers = told_sign(words[3]), told_counts(words[1:3] + words[4:], TWO_DIGITS)
    if numbers is None:
        return None
    return whole("kind", (*numbers[:2], sign, *numbers[2:]))


def told_bar(words):
    """The word, and the bar."""
    numbers = told_counts(words[2:], TWO_DIGITS)
    if numbers is None or len(words) < 2:
        return None
    return whole("bar", (words[1], *numbers) if words[1] == "between" else (words[1], numbers))


def whole(sort, value):
    """The word and the value of a form of one line; None unless the value is one of the sort."""
    return (sort, value) if is_of_sort(sort, value) else None


def told_row(head, words):
    """The rests of a further line; None if it is none behind this head."""
    if head[0] not in ("room", "table", "part") or words[0] != "line":
        return None
    return told_counts(words[1:], head[1])


def goes_behind(head, rows, row):
    """Whether the row stands behind these rows in some written form with this head."""
    if head[0] == "part":
        return fits_steps(head[1], head[2], rows + [row])
    size, at = len(rows[0]) if rows else len(row), len(rows)
    if len(row) != size or not at < size <= MOST_SIZE:
        return False
    return head[0] == "table" or row[:at] == [ahead[at] for ahead in rows]


def lacks_lines(head, rows):
    """Whether further lines have to stand behind these rows."""
    return head[0] != "part" and len(rows) > 0 and len(rows) < len(rows[0])


def value_of(head, rows):
    """The value that is told by the head and the rows behind it."""
    match head[0]:
        case "room":
            return Room(head[1], rows)
        case "table":
            return (head[1], tuple(rows))
        case "part":
            return (head[1], head[2], rows)
        case _:
            return head[1]

"""What commands that are no deeds tell of things."""

from restkeepers.frames import frame_count
from restkeepers.kinds import part_kind
from restkeepers.noughts import nought_size
from restkeepers.pairs import pair_count
from restkeepers.partcounts import fixing_count, holding_count, keeper_count, part_count
from restkeepers.plain import kind_of
from restkeepers.rooms import Room
from restkeepers.rowcounts import row_count, worth_counts
from restkeepers.tables import determinant


def answer_about(word, told):
    """What the command with this word tells of the things and numbers behind it."""
    match word:
        case "show":
            return shown(*told)
        case "kind":
            return spaced(kind_of(*told))
        case "partkind":
            return spaced(part_kind(*told))
        case "worths":
            return spaced(worth_counts(*told))
        case "worth":
            room, row = told
            return str(room.worth(row))
        case "between":
            room, row, other = told
            return str(room.between(row, other))
        case "same":
            return "yes" if told[0] == told[1] else "no"
        case _:
            return str(number_about(word, told))


def number_about(word, told):
    """The number that the command tells."""
    match word:
        case "rowcount":
            return row_count(*told)
        case "framecount":
            return frame_count(*told)
        case "keepers":
            return keeper_count(*told)
        case "fixing":
            return fixing_count(*told)
        case "holding":
            return holding_count(*told)
        case "partcount":
            room, *kind = told
            return part_count(room, tuple(kind))
        case "noughts":
            return nought_size(*told)
        case "pairs":
            return pair_count(*told)
        case _:
            return determinant(*told)


def shown(thing):
    """The thing's rows as the words of a command tell them; of a room its prime ahead."""
    if isinstance(thing, Room):
        return " ".join([str(thing.prime)] + [row_word(row) for row in thing.rows()])
    return " ".join([row_word(row) for row in thing]) if thing else "none"


def row_word(row):
    """The word of a row."""
    return ",".join([str(rest) for rest in row]) if row else "-"


def spaced(numbers):
    """The numbers with blanks between."""
    return " ".join([str(number) for number in numbers])

"""Claims about rooms, their contraries, and the papers that show which of both is true."""

from restkeepers.checks import fits_integer, fits_rows, fits_table
from restkeepers.errors import InvalidClaim
from restkeepers.going import continues, keeper_on, leads_part, part_lead
from restkeepers.keeping import bend, is_bend, is_lead
from restkeepers.kinds import alike_parts, part_kind
from restkeepers.likeness import alike, lead
from restkeepers.maps import bar, goes_on, is_bar
from restkeepers.noughts import is_nought
from restkeepers.parts import is_part
from restkeepers.plain import kind_of
from restkeepers.rooms import Room
from restkeepers.sums import betweens_table

WORDS = (("alike", "unlike"), ("keeps", "bends"), ("goes", "barred"), ("nought", "worthy"), ("led", "apart"))


def words():
    """The list of the tuples of the two words of each line, in their sequence."""
    return list(WORDS)


def is_claim(value):
    """Whether any value is a claim."""
    if not isinstance(value, tuple) or len(value) < 3 or not isinstance(value[1], Room):
        return False
    word, room, *others = value
    line = line_of(word)
    if line is None or len(others) != (2 if line[0] in ("goes", "led") else 1):
        return False
    match line[0]:
        case "alike":
            return isinstance(others[0], Room) and room.prime == others[0].prime and room.size == others[0].size
        case "keeps":
            return fits_table(room.prime, room.size, others[0])
        case "nought":
            return is_part(room, others[0])
        case "led":
            return is_part(room, others[0]) and is_part(room, others[1])
        case _:
            return is_part(room, others[0]) and fits_images(room, others[0], others[1])


def is_true(claim):
    """Whether the claim is true."""
    need_claim(claim)
    word, *parts = claim
    line = line_of(word)
    # The second word says that what the first one says is not so.
    return first_holds(line[0], parts) == (word == line[0])


def contrary(claim):
    """The contrary claim, with the same parts in new lists and tuples."""
    need_claim(claim)
    word, *parts = claim
    first, second = line_of(word)
    other = second if word == first else first
    return (other,) + tuple([copied(part) for part in parts])


def paper_of(claim):
    """A paper of the claim; None if it is not true, or if its kind has none."""
    if not is_true(claim):
        return None
    word, *parts = claim
    match word:
        case "alike":
            return lead(*parts)
        case "unlike":
            return both_kinds(parts)
        case "bends":
            return bend(*parts)
        case "goes":
            return keeper_on(*parts)
        case "barred":
            return bar(*parts)
        case "worthy":
            return seen_positions(*parts)[0]
        case "led":
            return part_lead(*parts)
        case "apart":
            return both_part_kinds(parts)
        case _:
            return None


def is_paper_of(claim, value):
    """Whether any value is a paper of the claim."""
    need_claim(claim)
    word, *parts = claim
    match word:
        case "alike":
            return is_lead(*parts, value)
        case "unlike":
            return are_unlike(both_kinds(parts), value)
        case "bends":
            return is_bend(*parts, value)
        case "goes":
            return continues(*parts, value)
        case "barred":
            return is_bar(*parts, value)
        case "worthy":
            return are_integers(value) and value in seen_positions(*parts)
        case "led":
            return leads_part(*parts, value)
        case "apart":
            return are_unlike(both_part_kinds(parts), value)
        case _:
            return False


def need_claim(claim):
    """Raise InvalidClaim unless the claim is one."""
    if not is_claim(claim):
        raise InvalidClaim(claim)


def line_of(word):
    """The two words of the line of any word; None if it stands in none."""
    for line in WORDS:
        if isinstance(word, str) and word in line:
            return line
    return None


def fits_images(room, part, value):
    """Whether any value is images of the part: as many rows of the room as it has."""
    return fits_rows(room.prime, room.size, value) and len(value) == len(part)


def first_holds(word, parts):
    """Whether a claim with the first word of a line is true."""
    match word:
        case "alike":
            return alike(*parts)
        case "keeps":
            return bend(*parts) is None
        case "goes":
            return goes_on(*parts)
        case "nought":
            return is_nought(*parts)
        case _:
            return alike_parts(*parts)


def both_kinds(rooms):
    """The kinds of both rooms."""
    return tuple([kind_of(room) for room in rooms])


def both_part_kinds(parts):
    """The kinds of both parts of the room ahead of them."""
    room, *others = parts
    return tuple([part_kind(room, part) for part in others])


def seen_positions(room, part):
    """All tuples of two positions of rows of the part whose between is not 0."""
    seen = betweens_table(room.prime, room.rows(), part)
    return [(first, second) for first, row in enumerate(seen) for second, rest in enumerate(row) if rest != 0]


def are_unlike(kinds, value):
    """Whether any value is these two kinds, and they are unlike."""
    if not isinstance(value, tuple) or not all([are_integers(kind) for kind in value]):
        return False
    return value == kinds and kinds[0] != kinds[1]


def are_integers(value):
    """Whether any value is a tuple of INTEGERS: True would be equal to 1."""
    return isinstance(value, tuple) and all([fits_integer(number) for number in value])


def copied(value):
    """The value with new lists and tuples."""
    if isinstance(value, list):
        return [copied(part) for part in value]
    if isinstance(value, tuple):
        return tuple([copied(part) for part in value])
    return value

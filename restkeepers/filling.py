"""Rows of a part in three bits, and these filled up to rows of the whole room [53].

What is filled up has betweens that hang on the room's kind and on the betweens of the bits alone: so two lists of rows
that were filled up from bits with the same betweens are led to one another by a keeper.
"""

from restkeepers.keeping import right_angles
from restkeepers.parts import room_among, still_rests
from restkeepers.plain import plain_lead
from restkeepers.sums import added_row, filling_rows, inverse, mixed_rows, solved_row


def bit_rests(room, rows):
    """Three lists of rests by which free rows are multiplied and added up to the bits of what they span: rows of a
    plain room without still rows, rows that are still among these rows alone, rows that are still in the room.
    """
    own = room_among(room, rows)
    still = still_rests(room, rows)
    nulls = filling_rows(room.prime, len(rows), still, own.still())
    return (list(plain_lead(own)[:own.rank]), nulls, still)


def whole_rows(room, rows, bits):
    """As many free rows of the room as its size: the bits of the rows, and what fills them up."""
    plain, nulls, still = [mixed_rows(room.prime, room.size, rests, rows) for rests in bits]
    paired = plain + nulls + partner_rows(room, plain, nulls)
    beside = filling_rows(room.prime, room.size, still, right_angles(room, paired))
    # What is left is alike wherever the bits are: so it is told by the rows of its plain room, other still ones last.
    rests = plain_lead(room_among(room, beside))
    return tuple(paired + mixed_rows(room.prime, room.size, rests, beside) + still)


def partner_rows(room, plain, nulls):
    """A row for each null one: the between of both is 1, its worth is 0, and it sees no other row of these."""
    half, partners = inverse(room.prime, 2), []
    for at, null in enumerate(nulls):
        ahead = plain + nulls + partners
        wanted = [1 if place == len(plain) + at else 0 for place in range(len(ahead))]
        seen = mixed_rows(room.prime, room.size, ahead, room.rows())
        row = solved_row(room.prime, room.size, seen, wanted)
        # Half the worth times the null row taken off leaves no worth, and changes no other between.
        partners.append(added_row(room.prime, row, -room.worth(row) * half, null))
    return partners

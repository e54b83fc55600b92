"""Rooms: symmetric tables of rests by a prime, which give rows their worths and betweens."""

from restkeepers.checks import fits_symmetric, need_prime, need_row, need_table
from restkeepers.errors import InvalidRoom, InvalidRows
from restkeepers.sums import betweens_table, dot, mixed_row, told_steps, zero_steps


class Room:
    """A room by a prime; it never changes."""

    def __init__(self, prime, rows):
        need_prime(prime)
        if not fits_symmetric(prime, rows):
            raise InvalidRows(rows)
        self._prime = prime
        self._table = tuple([tuple(row) for row in rows])
        self._size = len(self._table)
        self._rank = len(told_steps(prime, self._size, self._table))

    @property
    def prime(self):
        """The prime by which the room's rests are."""
        return self._prime

    @property
    def size(self):
        """How many rests the room's rows have."""
        return self._size

    @property
    def rank(self):
        """The size less how many free still rows there are."""
        return self._rank

    def rows(self):
        """The room's table, a tuple of tuples."""
        return self._table

    def worth(self, row):
        """The between of the row and itself."""
        return self.between(row, row)

    def between(self, row, other):
        """The between of two rows, a rest."""
        need_row(self._prime, self._size, row)
        need_row(self._prime, self._size, other)
        return dot(self._prime, mixed_row(self._prime, self._size, row, self._table), other)

    def still(self):
        """The told steps of all still rows."""
        # The table is symmetric: so its rows tell the betweens with the idle table's rows.
        return zero_steps(self._prime, self._size, self._table)

    def led(self, table):
        """The room led by a table of its size."""
        need_table(self._prime, self._size, table)
        return Room(self._prime, betweens_table(self._prime, self._table, table))

    def __eq__(self, other):
        return isinstance(other, Room) and self._prime == other._prime and self._table == other._table

    def __repr__(self):
        return f"Room({self._prime}, {self._table})"


def need_room(room):
    """Raise InvalidRoom unless the room is one."""
    if not isinstance(room, Room):
        raise InvalidRoom(room)

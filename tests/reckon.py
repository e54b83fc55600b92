"""What the tests reckon by themselves, in the plainest way, and values of all kinds."""

from itertools import combinations, product

PRIMES = (3, 5, 7, 11, 13)


class Thing:
    """A value of no kind that the program knows."""


THING = Thing()

# None of these is an INTEGER, a list or a tuple.
NO_KIND = [None, True, False, "", "1", "3", "(0, 1)", b"", b"\x01", {}, {0: 1}, {"a": 0}, set(), {1}, range(2),
           THING, Thing, len]
NO_PRIMES = NO_KIND + [0, 1, 2, 4, 6, 8, 9, 10, 12, 14, 15, 17, -3, -5, 10 ** 29, [], [3], (3,), [[3]]]
NO_SIZES = NO_KIND + [-1, 7, 8, 40, 10 ** 29, -10 ** 29, [], [1], (1,), [[1]]]


def no_rests(prime):
    return NO_KIND + [-1, -prime, prime, prime + 1, 10 ** 29, -10 ** 29, [], [0], (1,), [[1]]]


def no_rows(prime, size):
    """Values that are no row of this size; with the size None of no size from 0 to 6."""
    bad = NO_KIND + [0, 1, prime, [[]], ((),), [[0]], [[0], [0]], [0] * 7, (0,) * 7, [1] * 41]
    for length in [1, 2, 6] if size is None else [size or 1]:
        for rest in [-1, prime, True, False, None, "0", [0], (0,), 10 ** 29]:
            bad.append([0] * (length - 1) + [rest])
            bad.append((rest,) + (0,) * (length - 1))
    if size is not None:
        bad += [[0] * length for length in range(8) if length != size]
    return bad


def no_tables(prime, size):
    """Values that are no table of this size; with the size None of no size from 0 to 6."""
    bad = NO_KIND + [0, 1, prime, [0], (1, 1), [[]], ((),), [[], []], [[0, 0]], [[0], [0]], [[0, 0], [0]], [[[0]]],
                     [{0: 0}], ["0"], [None], [True], [THING], "table", [[0] * 7 for _ in range(7)]]
    bad += [[[0] * 7 for _ in range(6)], [[0] * 6 for _ in range(7)], [[0] * 6 for _ in range(5)]]
    for length in [1, 2, 6] if size is None else [size or 1]:
        for rest in [-1, prime, True, False, None, "0", [0], 10 ** 29]:
            table = [[0] * length for _ in range(length)]
            table[-1][0] = rest
            bad += [table, tuple(tuple(row) for row in table)]
        bad += [[[0] * length] * (length - 1) + [row] for row in no_rows(prime, length)]
    if size is not None:
        bad += [[[0] * length for _ in range(length)] for length in range(8) if length != size]
    return bad


def no_row_lists(prime, size):
    """Values that are no list of 0 to 40 rows of this size."""
    bad = NO_KIND + [0, 1, prime, [[0] * size] * 41, ([0] * size,) * 41, [0], ["0"], [None], [THING]]
    bad += [[[0] * size, row] for row in no_rows(prime, size)]
    return bad + [[row] + [[0] * size] * 3 for row in no_rows(prime, size)]


class Numbers:
    """Numbers that look mixed, the same in each run."""

    def __init__(self, seed):
        self.now = seed + 1

    def below(self, bound):
        self.now = (self.now * 6364136223846793005 + 1442695040888963407) % 2 ** 64
        return (self.now >> 33) % bound

    def row(self, prime, size):
        return [self.below(prime) for _ in range(size)]

    def rows(self, prime, size, many):
        return [self.row(prime, size) for _ in range(many)]

    def table(self, prime, size):
        return self.rows(prime, size, size)

    def low_table(self, prime, size, rank):
        """A table of this rank at most: each row a sum of multiples of a few."""
        few = self.rows(prime, size, rank)
        return [mixed(prime, size, self.row(prime, rank), few) for _ in range(size)]

    def symmetric(self, prime, size):
        table = self.table(prime, size)
        return [[table[min(i, j)][max(i, j)] for j in range(size)] for i in range(size)]

    def low_symmetric(self, prime, size, rank):
        """A symmetric table of this rank at most."""
        middle = self.symmetric(prime, rank)
        sides = self.rows(prime, rank, size)
        return [[between(prime, middle, x, y) for y in sides] for x in sides]

    def undone(self, prime, size):
        while True:
            table = self.table(prime, size)
            if determinant(prime, table) != 0:
                return table


def all_rows(prime, size):
    return list(product(range(prime), repeat=size))


def mixed(prime, size, rests, rows):
    return tuple(sum(rest * row[place] for rest, row in zip(rests, rows)) % prime for place in range(size))


def spanned(prime, size, rows):
    """All sums of multiples of the rows, as a set."""
    found = {(0,) * size}
    for row in rows:
        if tuple(row) not in found:
            found = {tuple((a + rest * b) % prime for a, b in zip(old, row)) for old in found for rest in range(prime)}
    return found


def in_steps(rows):
    """Whether the rows are in steps, by the words of the document."""
    firsts = []
    for row in rows:
        places = [place for place, rest in enumerate(row) if rest != 0]
        if not places or row[places[0]] != 1 or (firsts and places[0] <= firsts[-1]):
            return False
        firsts.append(places[0])
    return all(row[first] == 0 for first in firsts for row in rows if row is not rows[firsts.index(first)])


def determinant(prime, table):
    """By all orders of the places, those with the same places taken by the rows ahead put together."""
    sums = {0: 1}
    for row in table:
        more = {}
        for used, total in sums.items():
            for place, rest in enumerate(row):
                if rest and not used >> place & 1:
                    swaps = bin(used >> place).count("1")
                    taken = used | 1 << place
                    more[taken] = more.get(taken, 0) + (-1) ** swaps * total * rest
        sums = more
    return sums.get(2 ** len(table) - 1, 0) % prime


def multiplied(prime, table, other):
    size = len(table)
    return tuple(tuple(sum(table[i][k] * other[k][j] for k in range(size)) % prime for j in range(size))
                 for i in range(size))


def unit(size):
    return tuple(tuple(1 if i == j else 0 for j in range(size)) for i in range(size))


def turned(table):
    return tuple(zip(*table))


def between(prime, table, x, y):
    size = len(table)
    return sum(x[i] * table[i][j] * y[j] for i in range(size) for j in range(size)) % prime


def sign(prime, rest):
    if rest == 0:
        return 0
    return 1 if any(root * root % prime == rest for root in range(prime)) else -1


def plain_kind(value):
    """Whether the value is made of tuples, and of INTEGERS that are no bools."""
    if isinstance(value, tuple):
        return all(plain_kind(part) for part in value)
    return type(value) is int


def told_basis(numbers, prime, size, rank):
    """Rows in steps, as many as the rank."""
    firsts = []
    while len(firsts) < rank:
        place = numbers.below(size)
        if place not in firsts:
            firsts.append(place)
    firsts.sort()
    basis = []
    for first in firsts:
        row = [0 if place < first or place in firsts else numbers.below(prime) for place in range(size)]
        row[first] = 1
        basis.append(tuple(row))
    return basis


def spanning(numbers, prime, size, basis, more):
    """Rows that span the same as the basis: each of it with sums of those ahead, and some more, in any sequence."""
    rows = []
    for at, row in enumerate(basis):
        rests = numbers.row(prime, at) + [1 + numbers.below(prime - 1)]
        rows.append(list(mixed(prime, size, rests, basis[:at + 1])))
    rows += [list(mixed(prime, size, numbers.row(prime, len(basis)), basis)) for _ in range(more)]
    shuffled = []
    while rows:
        shuffled.append(rows.pop(numbers.below(len(rows))))
    return shuffled


def room_kind(prime, table):
    """Size, rank and sign of a room: by the greatest part of the table about its middle that is undone."""
    size = len(table)
    for rank in range(size, 0, -1):
        for places in combinations(range(size), rank):
            found = determinant(prime, [[table[i][j] for j in places] for i in places])
            if found:
                return (size, rank, sign(prime, found))
    return (size, 0, 1)


def led_room(prime, table, by):
    """The room's table led by another one: the betweens of its rows."""
    return tuple(tuple(between(prime, table, x, y) for y in by) for x in by)


def symmetric_tables(prime, size):
    """All of them."""
    places = [(i, j) for i in range(size) for j in range(i, size)]
    for rests in all_rows(prime, len(places)):
        at = dict(zip(places, rests))
        yield [[at[min(i, j), max(i, j)] for j in range(size)] for i in range(size)]


def room_samples(prime, size):
    """Tables of rooms of all ranks, some with 0 along the middle."""
    numbers = Numbers(1000 * size + prime)
    found = [numbers.low_symmetric(prime, size, rank) for rank in range(size + 1)]
    found += [numbers.symmetric(prime, size) for _ in range(3)]
    for table in found[-3:] + found[:size + 1]:
        found.append([[0 if i == j else table[i][j] for j in range(size)] for i in range(size)])
    if size > 1:
        found.append([[1 if i + j == size - 1 else 0 for j in range(size)] for i in range(size)])
    return found


def no_mates(prime):
    """Values that are no symmetric table of a size from 0 to 6."""
    bad = no_tables(prime, None)
    for size in range(2, 7):
        for seed in range(3):
            table = Numbers(seed + size).symmetric(prime, size)
            at = seed % size
            table[at][at - 1] = (table[at][at - 1] + 1) % prime
            bad += [table, tuple(tuple(row) for row in table)]
    return bad


def no_rooms(prime):
    return NO_KIND + [0, prime, [], [[1]], (), (prime, ()), (prime, ((1,),)), "Room(3, ())"]


def counted(prime, squares):
    """How many rows have each worth in a room in squares: one square after the other."""
    counts = [1] + [0] * (prime - 1)
    for square in squares:
        more = [0] * prime
        for worth, many in enumerate(counts):
            for rest in range(prime):
                more[(worth + square * rest * rest) % prime] += many
        counts = more
    return counts

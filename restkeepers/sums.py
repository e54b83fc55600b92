"""Sums and products of rows by a prime, of arguments that were checked elsewhere.

Rows are lists or tuples of rests; every row and table that is returned is a tuple.
"""


def inverse(prime, rest):
    """The rest whose product with this one is 1; the rest is not 0."""
    product = 1
    # By Fermat: the rest taken prime - 1 times as a factor is 1.
    for _ in range(prime - 2):
        product = product * rest % prime
    return product


def dot(prime, row, other):
    """The sum of the products of two rows, place by place."""
    return sum([rest * beside for rest, beside in zip(row, other)]) % prime


def scaled_row(prime, rest, row):
    """The row times the rest."""
    return tuple([rest * old % prime for old in row])


def added_row(prime, row, rest, other):
    """The row and the rest times the other row, added."""
    # Most rows that are cleared have nothing to take off.
    if rest == 0:
        return tuple(row)
    return tuple([(old + rest * new) % prime for old, new in zip(row, other)])


def mixed_row(prime, size, rests, rows):
    """The sum of the rows of this size, each times its rest."""
    # Without rows the size alone tells how long nought is.
    total = (0,) * size
    for rest, row in zip(rests, rows):
        total = added_row(prime, total, rest, row)
    return total


def idle_table(size):
    """The table that leads each row of the size to itself."""
    return tuple([tuple([1 if place == at else 0 for place in range(size)]) for at in range(size)])


def product_table(prime, table, other):
    """The product table times other."""
    return tuple([mixed_row(prime, len(other), row, other) for row in table])


def turned_table(table):
    """The columns of the table as its rows."""
    return tuple([tuple([row[place] for row in table]) for place in range(len(table))])


def at_place(rows, place):
    """The position of the first row whose rest at the place is not 0; None if there is none."""
    for at, row in enumerate(rows):
        if row[place] != 0:
            return at
    return None


def one_at(prime, row, place):
    """The multiple of the row that has 1 at the place."""
    return scaled_row(prime, inverse(prime, row[place]), row)


def cleared(prime, rows, step, place):
    """The rows, of each so much of the step taken off that 0 is left at the place."""
    return [added_row(prime, row, -row[place], step) for row in rows]


def told_steps(prime, size, rows):
    """The told steps of the rows, a list of tuples."""
    told, left = [], rows
    for place in range(size):
        at = at_place(left, place)
        if at is not None:
            step = one_at(prime, left[at], place)
            told = cleared(prime, told, step, place) + [step]
            # The row that gave the step becomes nought here, and is never taken again.
            left = cleared(prime, left, step, place)
    return told


def first_place(step):
    """The place of the first rest that is not 0; the row is not nought."""
    place = 0
    while step[place] == 0:
        place += 1
    return place


def zero_steps(prime, size, rows):
    """The told steps of all rows whose sum of products with each of the rows is 0."""
    told = told_steps(prime, size, rows)
    firsts = [first_place(step) for step in told]
    found = []
    for place in range(size):
        if place not in firsts:
            zero = [1 if at == place else 0 for at in range(size)]
            for first, step in zip(firsts, told):
                zero[first] = -step[place] % prime
            found.append(zero)
    return told_steps(prime, size, found)


def determinant_of(prime, table):
    """The determinant of the table, a rest."""
    total, left = 1, list(table)
    for place in range(len(table)):
        at = at_place(left, place)
        if at is None:
            return 0
        # Moving the row up over `at` others turns the sign as often.
        total = total * left[at][place] * (-1 if at % 2 == 1 else 1)
        step = one_at(prime, left[at], place)
        left = cleared(prime, left[:at] + left[at + 1:], step, place)
    return total % prime


def undoing_table(prime, table):
    """The table by which the table is undone; None if there is none."""
    size = len(table)
    joined = [tuple(row) + unit for row, unit in zip(table, idle_table(size))]
    told = told_steps(prime, 2 * size, joined)
    # The rows are led to the idle ones exactly if the table is undone; what led them stands behind.
    if tuple([step[:size] for step in told]) != idle_table(size):
        return None
    return tuple([step[size:] for step in told])


def betweens_table(prime, table, rows):
    """The betweens of each two of the rows, in the room of the table."""
    led = [mixed_row(prime, len(table), row, table) for row in rows]
    return tuple([tuple([dot(prime, first, second) for second in rows]) for first in led])


def mixed_rows(prime, size, table, rows):
    """The sums of the rows of this size by each list of rests in the table."""
    return [mixed_row(prime, size, rests, rows) for rests in table]


def nought_rests(prime, size, rows):
    """The told steps of all rests by which the rows of this size, multiplied and added up, come to nought."""
    columns = [tuple([row[place] for row in rows]) for place in range(size)]
    return zero_steps(prime, len(rows), columns)


def filling_rows(prime, size, rows, more):
    """Those of the further rows that are no sum of multiples of the rows and of the further ones ahead."""
    told, found = told_steps(prime, size, rows), []
    for row in more:
        wider = told_steps(prime, size, told + [row])
        if len(wider) > len(told):
            found.append(tuple(row))
            told = wider
    return found


def joined_tables(table, other):
    """Both tables, one behind the other, and 0 elsewhere."""
    upper = [tuple(row) + (0,) * len(other) for row in table]
    return tuple(upper + [(0,) * len(table) + tuple(row) for row in other])


def solved_row(prime, size, rows, rests):
    """A row whose sums of products with the rows, free ones, are the rests."""
    joined = [tuple(row) + (rest,) for row, rest in zip(rows, rests)]
    found = [0] * size
    for step in told_steps(prime, size + 1, joined):
        found[first_place(step)] = step[size]
    return tuple(found)


def power(prime, times):
    """The prime taken so many times as a factor."""
    product = 1
    for _ in range(times):
        product = product * prime
    return product

"""Maps of parts: keepers that look mixed, images of all sorts, and the marks and bars by the words of the document."""

from restkeepers.steps import zeros
from tests import reckon
from tests.listing import is_still
from tests.reckon import Numbers, all_rows, between, mixed, unit

# No bar of any map is among these.
NO_BARS = reckon.NO_KIND + [0, 1, (), [], ("between",), ("between", 0), ("between", 0, 0, 0), ("lost",), ("still",),
                            ("lost", []), ("still", []), ("lost", ()), ("still", ()), ("lost", [0]), ("still", (0, 0)),
                            ("lost", [0, 0, 0]), ("still", [0] * 6), ("lost", None), ("lost", True), ("still", "1"),
                            ("lost", 1), ("still", {1: 1}), ("lost", [1], [1]), ("lost", [None]), ("still", ["1"]),
                            ("lost", [[1]]), ("lost", [-1]), ("lost", [13]), ("still", [10 ** 29]), ("lost", [1] * 7),
                            ("between", -1, 0), ("between", -1, -1), ("between", 0, 7), ("between", 6, 6),
                            ("between", None, 0), ("between", "0", "0"), ("between", [0], [0]), ("between", (0, 0)),
                            ("between", 10 ** 29, 10 ** 29), ("between", True, True), ("between", False, False),
                            ("between", [0, 0]), "between", "lost", ("betweens", 0, 0), ("Between", 0, 0), ("", 0, 0),
                            (None, 0, 0), (0, 0, 0), (True, [1]), (b"lost", [1]), ("gone", [1]), ("between", [1]),
                            ("lost", 0, 0), ("still", 0, 0), ([], []), (["lost"], [1]), ((), ())]


def mirror(prime, table, row):
    """The keeper that turns the row to its negative; its worth is not 0."""
    share = 2 * pow(between(prime, table, row, row), -1, prime)
    by = [share * between(prime, table, other, row) for other in unit(len(table))]
    return [[(a - much * b) % prime for a, b in zip(other, row)] for other, much in zip(unit(len(table)), by)]


def moved_still(prime, table, numbers):
    """The keeper that adds some still row to each row of the idle table, if that is undone."""
    size, still = len(table), zeros(prime, len(table), table)
    found = [[(a + b) % prime for a, b in zip(row, mixed(prime, size, numbers.row(prime, len(still)), still))]
             for row in unit(size)]
    return found if reckon.determinant(prime, found) else unit(size)


def mixed_keeper(prime, table, seed):
    """A keeper that looks mixed: mirrors one behind the other, and still rows added."""
    numbers, found = Numbers(seed), unit(len(table))
    for _ in range(5):
        row = numbers.row(prime, len(table))
        if between(prime, table, row, row):
            found = reckon.multiplied(prime, found, mirror(prime, table, row))
        found = reckon.multiplied(prime, found, moved_still(prime, table, numbers))
    return found


def led(prime, rows, table):
    """The rows led by the table."""
    return [mixed(prime, len(table), row, table) for row in rows]


def is_plain_bar(prime, table, part, images, value):
    """Whether a tuple of the right form is a bar, by the words of the document."""
    if value[0] == "between":
        _, i, j = value
        return i <= j and between(prime, table, part[i], part[j]) != between(prime, table, images[i], images[j])
    word, rests = value
    own, beside = mixed(prime, len(table), rests, part), mixed(prime, len(table), rests, images)
    if not any(rests):
        return False
    if word == "lost":
        return not any(beside)
    return is_still(prime, table, own) != is_still(prime, table, beside)


def bar_forms(prime, many):
    """All tuples that may be bars of a map of so many rows."""
    found = [("between", i, j) for i in range(many) for j in range(many)]
    for rests in all_rows(prime, many):
        found += [("lost", list(rests)), ("still", list(rests))]
    return found


def other_images(prime, table, images, seed):
    """Images that are otherwise in one thing."""
    numbers, size, many = Numbers(seed), len(table), len(images)
    still, found = zeros(prime, size, table), []
    for at in range(many):
        def put(row):
            return images[:at] + [tuple(rest % prime for rest in row)] + images[at + 1:]
        other = images[numbers.below(many)]
        found += [put(numbers.row(prime, size)), put([0] * size), put(other), put([-rest for rest in images[at]])]
        found += [put([2 * rest for rest in images[at]]), put([a + b for a, b in zip(images[at], other)])]
        found += [put([a + b for a, b in zip(images[at], row)]) for row in still[:1]] + [put(row) for row in still[-1:]]
        found.append(images[at:] + images[:at])
        place = numbers.below(size)
        found.append(put([rest + (1 if here == place else 0) for here, rest in enumerate(images[at])]))
    if many > 1:
        found += [[images[1], images[0]] + images[2:], images[::-1], [images[0]] * many]
    return found

"""The errors of the package, in four families."""


class RoomError(ValueError):
    """A value that was passed is not of the kind that is wanted."""


class InvalidImages(RoomError):
    """Not a list of as many rows of the room's size as the part has."""

    def __init__(self, value):
        self.value = value


class InvalidKind(RoomError):
    """Not a kind, or not the kind of anything there."""

    def __init__(self, value):
        self.value = value


class InvalidPart(RoomError):
    """Not a part of the room."""

    def __init__(self, value):
        self.value = value


class InvalidPrime(RoomError):
    """Not 3, 5, 7, 11 or 13."""

    def __init__(self, value):
        self.value = value


class InvalidRest(RoomError):
    """Not a rest by the prime."""

    def __init__(self, value):
        self.value = value


class InvalidRoom(RoomError):
    """Not a Room."""

    def __init__(self, value):
        self.value = value


class InvalidRow(RoomError):
    """Not a row of rests by the prime, of the size that is wanted."""

    def __init__(self, value):
        self.value = value


class InvalidSize(RoomError):
    """Not a count within the bounds."""

    def __init__(self, value):
        self.value = value


class InvalidTable(RoomError):
    """Not a table of rests by the prime, of the size that is wanted."""

    def __init__(self, value):
        self.value = value


class InvalidClaim(RoomError):
    """Not a claim."""

    def __init__(self, value):
        self.value = value


class InvalidCommand(RoomError):
    """Not a command."""

    def __init__(self, value):
        self.value = value


class InvalidLines(RoomError):
    """Not a list of deeds: the position of the first other line, or None."""

    def __init__(self, position):
        self.position = position


class InvalidMates(RoomError):
    """Not a symmetric table of rests by the room's prime."""

    def __init__(self, value):
        self.value = value


class InvalidPaper(RoomError):
    """Not a paper of the claim, nor of its contrary."""

    def __init__(self, value):
        self.value = value


class InvalidPlace(RoomError):
    """Not a place there."""

    def __init__(self, value):
        self.value = value


class InvalidRows(RoomError):
    """Not rows of the form that is wanted."""

    def __init__(self, value):
        self.value = value


class InvalidSort(RoomError):
    """Not the word of a sort."""

    def __init__(self, value):
        self.value = value


class InvalidText(RoomError):
    """Not a written form: the number of the wrong line."""

    def __init__(self, line):
        self.line = line


class InvalidValue(RoomError):
    """Not a value of the sort."""

    def __init__(self, value):
        self.value = value


class MissingError(LookupError):
    """Something that was asked for is not there."""


class UnknownLabel(MissingError):
    """No claim is noted under the label."""

    def __init__(self, value):
        self.value = value


class UnknownName(MissingError):
    """Nothing of the wanted kind is kept under the name."""

    def __init__(self, value):
        self.value = value


class StateError(RuntimeError):
    """What was asked for cannot be done with what is there."""


class NotUndone(StateError):
    """Nothing undoes the rest or the table."""


class CommandFailed(StateError):
    """The command at the position failed."""

    def __init__(self, position):
        self.position = position


class LabelTaken(StateError):
    """A claim is noted under the label already."""

    def __init__(self, label):
        self.label = label


class NameTaken(StateError):
    """A thing is kept under the name already."""

    def __init__(self, name):
        self.name = name


class NoSorts(StateError):
    """The room's greatest nought parts have no sorts."""


class NoneThere(StateError):
    """There is none of what was asked for."""


class NotGreatest(StateError):
    """Not a greatest nought part."""


class NotNought(StateError):
    """Not a nought part."""


class NothingToRedo(StateError):
    """No deed was taken back that could be done again."""


class NothingToUndo(StateError):
    """There is no deed to take back."""


class UnlikePrimes(StateError):
    """The rooms have unlike primes."""


class UnlikeSizes(StateError):
    """The rows or tables have unlike sizes."""


class LimitError(ArithmeticError):
    """More than a limit allows."""


class TooMany(LimitError):
    """There would be more than the limit of what is told."""

    def __init__(self, what, limit):
        self.what = what
        self.limit = limit

"""Counts, signs and rests as the words of a line tell them; None for a word that tells none."""

DIGITS = "0123456789"
SIGNS = ("-1", "0", "1")
# All COUNTS of lines and commands are below this.
TWO_DIGITS = 100


def told_count(word, bound):
    """The COUNT below the bound, which is 100 at most."""
    if len(word) not in (1, 2) or not all([letter in DIGITS for letter in word]):
        return None
    # A zero ahead is needless.
    if word != str(int(word)) or int(word) >= bound:
        return None
    return int(word)


def told_counts(words, bound):
    """The list of the COUNTS below the bound, one for each word."""
    found = [told_count(word, bound) for word in words]
    return None if None in found else found


def told_sign(word):
    """The sign: 1, 0 or -1."""
    return int(word) if word in SIGNS else None

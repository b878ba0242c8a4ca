"""What numbers, amounts, times, names, keys, secrets, lists and pairs are."""

LETTERS = "abcdefghijklmnopqrstuvwxyz"
FIGURES = "0123456789"
LONGEST = 8
LONGEST_SECRET = 20
# No number of more figures is read: Python itself reads, and writes, no number of any length.
MOST_FIGURES = 900
MOST = 10 ** 9
MOST_DIGEST = 10 ** 30


def is_number(thing):
    """Whether thing is a number: truths are ints to Python, but no numbers here."""
    return isinstance(thing, int) and not isinstance(thing, bool)


def is_count(thing):
    """Whether thing is a number from 1 on."""
    return is_number(thing) and thing >= 1


def is_amount(thing):
    """Whether thing is an amount."""
    return is_count(thing) and thing <= MOST


def is_whole(thing):
    """Whether thing is a number from 0 on."""
    return is_number(thing) and thing >= 0


def is_time(thing):
    """Whether thing is a time."""
    return is_whole(thing)


def is_digest(thing):
    """Whether thing is a number that a digest may tell: a lock or a seal."""
    return is_whole(thing) and thing <= MOST_DIGEST


def is_letters(thing, longest):
    """Whether thing is a text of 1 to longest small letters."""
    if not isinstance(thing, str) or not 1 <= len(thing) <= longest:
        return False
    return all([sign in LETTERS for sign in thing])


def is_name(thing):
    """Whether thing is a name."""
    return is_letters(thing, LONGEST)


def is_key(thing):
    """Whether thing is a key."""
    return is_letters(thing, LONGEST_SECRET)


def is_secret(thing):
    """Whether thing is a secret."""
    return is_letters(thing, LONGEST_SECRET)


def read_number(word):
    """The number that a word of figures tells, None where it has needless noughts or is none."""
    if not 1 <= len(word) <= MOST_FIGURES or not all([sign in FIGURES for sign in word]):
        return None
    if word[0] == "0" and word != "0":
        return None
    return int(word)


def is_list(thing):
    """Whether thing may stand where a list is handed in: a tuple may, too."""
    return isinstance(thing, (list, tuple))


def is_alike(one, other):
    """Whether two things are the same down to their kinds, which == doesn't tell apart."""
    return one == other and repr(one) == repr(other)


def is_pair(thing):
    """Whether thing is a pair: a tuple, for only where a list is told may either stand."""
    return isinstance(thing, tuple) and len(thing) == 2

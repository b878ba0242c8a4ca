"""What numbers, names, amounts, times, lists and pairs are."""

LETTERS = "abcdefghijklmnopqrstuvwxyz"
LONGEST = 8
MOST = 10 ** 9


def is_number(thing):
    """Whether thing is a number: truths are ints to Python, but no numbers here."""
    return isinstance(thing, int) and not isinstance(thing, bool)


def is_count(thing):
    """Whether thing is a number from 1 on."""
    return is_number(thing) and thing >= 1


def is_amount(thing):
    """Whether thing is an amount."""
    return is_count(thing) and thing <= MOST


def is_whole(thing):
    """Whether thing is a number from 0 on."""
    return is_number(thing) and thing >= 0


def is_time(thing):
    """Whether thing is a time."""
    return is_whole(thing)


def is_name(thing):
    """Whether thing is a name."""
    if not isinstance(thing, str) or not 1 <= len(thing) <= LONGEST:
        return False
    return all([sign in LETTERS for sign in thing])


def is_list(thing):
    """Whether thing may stand where a list is handed in: a tuple may, too."""
    return isinstance(thing, (list, tuple))


def is_pair(thing):
    """Whether thing is a pair: a tuple, for only where a list is told may either stand."""
    return isinstance(thing, tuple) and len(thing) == 2

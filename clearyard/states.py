"""States: what two parties of a pool have, and what they promised one another."""

from clearyard.errors import NoState
from clearyard.words import MOST, is_amount, is_count, is_digest, is_number, is_time, is_whole, read_number

MOST_OF_ONE = 10 ** 10
MOST_PROMISES = 4


def is_party(thing):
    """Whether thing is one of the two parties."""
    return is_number(thing) and thing in (0, 1)


def is_promise(thing):
    """Whether thing is a promise."""
    if not isinstance(thing, tuple) or len(thing) != 5:
        return False
    mark, by, amount, lock, until = thing
    return is_count(mark) and is_party(by) and is_amount(amount) and is_digest(lock) and is_time(until)


def is_state(thing):
    """Whether thing is a state."""
    if not isinstance(thing, tuple) or len(thing) != 6:
        return False
    word, pool, turn, x, y, promises = thing
    if word != "state" or not is_count(pool) or not is_whole(turn):
        return False
    if not all([is_whole(has) and has <= MOST_OF_ONE for has in (x, y)]):
        return False
    return _are_promises(promises)


def _are_promises(thing):
    if not isinstance(thing, tuple) or len(thing) > MOST_PROMISES:
        return False
    if not all([is_promise(promise) for promise in thing]):
        return False
    marks = [promise[0] for promise in thing]
    return marks == sorted(set(marks))


def are_stakes(x, y):
    """Whether two parties may put in so much: x and y."""
    if not all([is_whole(stake) and stake <= MOST for stake in (x, y)]):
        return False
    return x + y > 0


def first_state(pool, x, y):
    """The state by which a pool begins."""
    return ("state", pool, 0, x, y, ())


def worth(state):
    """All that is in a state."""
    _look_at(state)
    return state[3] + state[4] + sum([promise[2] for promise in state[5]])


def state_text(state):
    """The text of a state: by it a state is sealed."""
    _look_at(state)
    text = _row("state", state[1:5])
    for promise in state[5]:
        text = text + _row(" /", promise)
    return text


def lock_text(secret):
    """The text of which the digest is a secret's lock."""
    return "lock " + secret


def read_state(text):
    """The state of which this is the text."""
    if not isinstance(text, str):
        raise NoState()
    words = text.split(" ")
    # Four numbers follow the first word; a stroke and five numbers follow for each promise.
    if words[0] != "state" or len(words) % 6 != 5 or not all([word == "/" for word in words[5::6]]):
        raise NoState()
    promises = [_numbers(words[at:at + 5]) for at in range(6, len(words), 6)]
    state = ("state", *_numbers(words[1:5]), tuple(promises))
    _look_at(state)
    return state


def _look_at(state):
    if not is_state(state):
        raise NoState()


def _row(word, numbers):
    return " ".join([word, *[str(number) for number in numbers]])


def _numbers(words):
    """The numbers of some words, None in the place of what is none."""
    return tuple([read_number(word) for word in words])

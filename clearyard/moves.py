"""Moves: how one party leads a state to the next one."""

from clearyard.errors import NoMove, NoState
from clearyard.states import is_party, is_promise, is_state, lock_text
from clearyard.words import is_amount, is_count, is_secret


def is_move(thing):
    """Whether thing has the form of a move, whatever state it is of."""
    if not isinstance(thing, tuple) or len(thing) == 0 or not isinstance(thing[0], str):
        return False
    word = thing[0]
    if word not in PARTS or len(thing) != PARTS[word]:
        return False
    if word == "pay":
        return is_amount(thing[1])
    if word == "give":
        return is_promise((thing[1], 0, *thing[2:]))
    if word == "claim":
        return is_count(thing[1]) and is_secret(thing[2])
    return word == "pass" or is_count(thing[1])


def mover(state):
    """The party that moves next."""
    if not is_state(state):
        raise NoState()
    return state[2] % 2


def moved(state, party, move, digest):
    """The state that a move of party leads to."""
    if not is_state(state):
        raise NoState()
    after = led_to(state, party, move, digest)
    if after is None:
        raise NoMove()
    return after


def led_to(state, party, move, digest):
    """The state that a move of party leads to, None where there is none."""
    if not is_party(party) or party != mover(state) or not is_move(move):
        return None
    lead = LEADS[move[0]]
    after = lead(state, party, move, digest)
    return after if is_state(after) else None


def promise_of(state, mark, by):
    """The promise of that mark, given by that party, None where there is none."""
    for promise in state[5]:
        if promise[:2] == (mark, by):
            return promise
    return None


def _stepped(state, party, amount, other, promises):
    """The state one turn on: party has so much more, the other one so much."""
    word, pool, turn, x, y, _ = state
    gains = (amount, other) if party == 0 else (other, amount)
    return word, pool, turn + 1, x + gains[0], y + gains[1], promises


def _ended(state, promise, party):
    """The state one turn on, a promise in it become party's own; None where there is no promise."""
    if promise is None:
        return None
    promises = tuple([each for each in state[5] if each != promise])
    return _stepped(state, party, promise[2], 0, promises)


def _pay(state, party, move, digest):
    return _stepped(state, party, -move[1], move[1], state[5])


def _give(state, party, move, digest):
    mark, amount, lock, until = move[1:]
    return _stepped(state, party, -amount, 0, (*state[5], (mark, party, amount, lock, until)))


def _claim(state, party, move, digest):
    promise = promise_of(state, move[1], 1 - party)
    if promise is not None and digest(lock_text(move[2])) != promise[3]:
        return None
    return _ended(state, promise, party)


def _back(state, party, move, digest):
    return _ended(state, promise_of(state, move[1], 1 - party), 1 - party)


def _late(state, party, move, digest):
    return _ended(state, promise_of(state, move[1], party), party)


def _pass(state, party, move, digest):
    return _stepped(state, party, 0, 0, state[5])


LEADS = {"pay": _pay, "give": _give, "claim": _claim, "back": _back, "late": _late, "pass": _pass}

# How many parts a move has, its word among them.
PARTS = {"pay": 2, "give": 5, "claim": 3, "back": 2, "late": 2, "pass": 1}

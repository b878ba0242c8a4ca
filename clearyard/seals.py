"""Seals: digests by which the holders of two keys stand by a text, and locks that secrets have."""

from clearyard.errors import NoSeal
from clearyard.states import is_state, lock_text, state_text
from clearyard.words import is_digest, is_key, is_list, is_secret


def lock_of(secret, digest):
    """The lock that a secret has."""
    if not is_secret(secret):
        raise NoSeal()
    return digest(lock_text(secret))


def seal_of(state, key, digest):
    """The seal of a state by a key."""
    text = state_text(state)
    if not is_key(key):
        raise NoSeal()
    return digest(sealed_text(text, key))


def is_sealed(thing, keys, digest):
    """Whether thing is a state with the seals of both by their keys."""
    return has_seals(thing) and are_seals(state_text(thing[0]), thing[1:], keys, digest)


def has_seals(thing):
    """Whether thing is a state with two numbers that may be seals."""
    if not isinstance(thing, tuple) or len(thing) != 3 or not is_state(thing[0]):
        return False
    return all([is_digest(seal) for seal in thing[1:]])


def are_seals(text, seals, keys, digest):
    """Whether seals are two, those of a text by two keys."""
    for pair in (seals, keys):
        if not is_list(pair) or len(pair) != 2:
            return False
    if not all([is_digest(seal) for seal in seals]) or not all([is_key(key) for key in keys]):
        return False
    return all([digest(sealed_text(text, key)) == seal for seal, key in zip(seals, keys)])


def sealed_text(text, key):
    """The text of which the digest is a text's seal by a key."""
    return key + " " + text

"""The judge: walks a yard's books again, and tells the first flaw."""

from clearyard.bests import shows_best
from clearyard.errors import NoLog, YardError
from clearyard.greatest import shows_greatest
from clearyard.ledger import ledger_of
from clearyard.lines import asked
from clearyard.words import is_alike, is_list
from clearyard.yards import Yard


def books_of(yard):
    """The books of a yard: its ledger's rows, its rounds, and its deeds."""
    return tuple(yard.ledger().rows()), tuple(yard.clearing().rounds()), tuple(yard.deeds())


def judged(books, digest):
    """The first flaw of books, None where there is none."""
    if not isinstance(books, tuple) or len(books) != 3 or not all([is_list(part) for part in books]):
        return "row", 0
    rows, rounds, deeds = books
    try:
        ledger_of(rows)
    except NoLog as flaw:
        return "row", flaw.row
    guarded = asked(digest)
    yard = Yard(guarded)
    orders = {}
    for at, deed in enumerate(deeds):
        if not _is_done(yard, deed, rows, orders, guarded):
            return "deed", at
    if len(yard.ledger()) < len(rows):
        return "row", len(yard.ledger())
    return _flaw_of_rounds(rounds, yard.clearing().rounds(), orders)


def _is_done(yard, deed, rows, orders, digest):
    """Does a deed, and keeps an order: whether it can be done, and the ledger has the books' first rows behind it."""
    ahead = len(yard.ledger())
    try:
        told = yard.do(deed)
    except YardError:
        if digest.raised():
            raise
        return False
    if deed[0] == "order":
        orders[told] = deed[1]
    written = yard.ledger().rows()[ahead:]
    return written == list(rows[ahead:ahead + len(written)])


def _flaw_of_rounds(rounds, led, orders):
    """The first flaw of rounds, held against those that were led again."""
    for at, there in enumerate(led):
        if at >= len(rounds) or not _is_round(rounds[at], there, orders):
            return "round", at
    return None if len(rounds) == len(led) else ("round", len(led))


def _is_round(thing, there, orders):
    """Whether thing is the round that is there, with any paper of it."""
    if not isinstance(thing, tuple) or len(thing) != 6 or not _is_like(thing, there):
        return False
    _, how, numbers, settled, free, paper = thing
    settling = [orders[number] for number in numbers]
    told = ([numbers.index(number) for number in settled], paper)
    return shows_greatest(free, settling, told) if how == "great" else shows_best(free, settling, told)


def _is_like(one, other):
    """Whether two rounds are the same but for their papers."""
    if one[4] != other[4]:
        return False
    return is_alike((*one[:4], sorted(one[4].items())), (*other[:4], sorted(other[4].items())))

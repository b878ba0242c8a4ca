"""The desk: a yard by rows of words."""

from clearyard.errors import YardError
from clearyard.judging import books_of, judged
from clearyard.lines import asked
from clearyard.seals import lock_of
from clearyard.states import state_text
from clearyard.words import read_number
from clearyard.yards import Yard

# What stands behind a row's first word: w any word, n a number.
DEEDS = {
    "enter": "ww", "put": "wn", "take": "wn", "order": "wwnnnn", "drop": "n", "round": "w",
    "hold": "wwnn", "claim": "nn", "back": "n", "found": "wwnnn", "act": "w", "ends": "w",
    "arrive": "nnn", "lose": "nnn", "copy": "nnn", "leave": "n", "show": "w", "tick": "n",
}
WISHES = {"pay": "nn", "send": "nnnn", "hand": "nnnn", "take": "w"}
QUESTIONS = {"free": "w", "worth": "w", "total": "", "state": "n", "lock": "w", "line": "nn", "judge": ""}


class Desk:
    """One who does at a yard what rows say, and tells what comes of it."""

    def __init__(self, digest):
        self._digest = asked(digest)
        self._yard = Yard(self._digest)

    def say(self, row):
        """Does what a row says: what is told of it."""
        if not isinstance(row, str):
            return "what"
        self._digest.start()
        words = row.split(" ")
        deed = _deed_of(words)
        try:
            if deed is not None:
                return _told_of(deed[0], self._yard.do(deed))
            return self._answer(words)
        except YardError as refusal:
            if self._digest.raised():
                raise
            return "refused " + refusal.word()

    def _answer(self, words):
        """What is told of a question, or of a row that is none."""
        parts = _parts_of(words[1:], QUESTIONS[words[0]]) if words[0] in QUESTIONS else None
        if parts is None:
            return "what"
        answer = ANSWERS[words[0]]
        return answer(self._yard, self._digest, *parts)


def _parts_of(words, form):
    """The parts that words tell by a form, None where they tell none."""
    if len(words) != len(form):
        return None
    parts = [word if sign == "w" else read_number(word) for word, sign in zip(words, form)]
    return None if None in parts else parts


def _deed_of(words):
    """The deed that words tell, None where they tell none."""
    if words[0] == "wish":
        return _wish_of(words)
    parts = _parts_of(words[1:], DEEDS[words[0]]) if words[0] in DEEDS else None
    if parts is None:
        return None
    return ("order", ("order", *parts)) if words[0] == "order" else (words[0], *parts)


def _wish_of(words):
    """The wish that words tell, None where they tell none."""
    if len(words) < 3 or words[2] not in WISHES:
        return None
    parts = _parts_of(words[3:], WISHES[words[2]])
    return None if parts is None else ("wish", words[1], (words[2], *parts))


def _told_of(word, told):
    """What a deed told, in words."""
    if word in ("order", "hold", "found"):
        return str(told)
    if word == "round":
        return _row_of(told[0]) or "-"
    if word in ("act", "ends"):
        return str(len(told))
    if word == "arrive":
        return _reply_of(told)
    if word == "tick":
        return _row_of([len(part) for part in told])
    return "ok"


def _reply_of(told):
    if told is None:
        return "-"
    return told if told == "agreed" else told[0]


def _row_of(numbers):
    return " ".join([str(number) for number in numbers])


def _free(yard, digest, name):
    return str(yard.ledger().free(name))


def _worth(yard, digest, name):
    return _row_of(yard.worth(name))


def _total(yard, digest):
    return str(yard.ledger().total())


def _state(yard, digest, pool):
    pools = yard.pools()
    return state_text(pools[pool][3]) if pool in pools else "-"


def _lock(yard, digest, secret):
    return str(lock_of(secret, digest))


def _line(yard, digest, pool, party):
    return str(len(yard.line(pool, party)))


def _judge(yard, digest):
    flaw = judged(books_of(yard), digest)
    return "ok" if flaw is None else f"{flaw[0]} {flaw[1]}"


ANSWERS = {
    "free": _free, "worth": _worth, "total": _total, "state": _state, "lock": _lock, "line": _line, "judge": _judge,
}

"""[70]: promises, states, what they are worth, and their texts there and back."""

import random
import unittest

from clearyard.errors import NoState
from clearyard.states import is_state, read_state, state_text, worth
from things import MOST, NOT_AMOUNTS, NOT_COUNTS, NOT_LISTS, NOT_NUMBERS, NOT_TIMES, ODD, Case

GREAT = 10 ** 10
DIGEST = 10 ** 30

PROMISES = ((1, 0, 5, 77, 9), (4, 1, 6, 0, 0))
STATE = ("state", 3, 8, 20, 30, PROMISES)
TEXT = "state 3 8 20 30 / 1 0 5 77 9 / 4 1 6 0 0"


def exchanged(parts, at, part):
    return (*parts[:at], part, *parts[at + 1:])


def with_promise(at, part):
    """STATE with one part of its first promise otherwise."""
    return exchanged(STATE, 5, (exchanged(PROMISES[0], at, part), PROMISES[1]))


def some_state(chance):
    marks = sorted(chance.sample(range(1, 12), chance.randint(0, 4)))
    promises = []
    for mark in marks:
        lock = chance.choice((0, 5, DIGEST, chance.randint(0, DIGEST)))
        promises.append((mark, chance.randint(0, 1), chance.choice((1, 7, MOST)), lock, chance.choice((0, 3, 10 ** 39))))
    haves = [chance.choice((0, 1, 10, 99, GREAT)) for _ in range(2)]
    return ("state", chance.choice((1, 10, 10 ** 39)), chance.choice((0, 1, 20)), *haves, tuple(promises))


class IsState(Case):

    def are(self, right, *things):
        for thing in things:
            self.assertIs(is_state(thing), right, repr(thing))

    def test_by_place_and_by_name(self):
        self.assertIs(is_state(STATE), True)
        self.assertIs(is_state(thing=STATE), True)
        self.assertIs(is_state(thing=list(STATE)), False)

    def test_bounds(self):
        self.are(True, ("state", 1, 0, 0, 0, ()), ("state", 10 ** 39, 10 ** 39, GREAT, GREAT, ()))
        self.are(False, ("state", 0, 0, 0, 0, ()), ("state", 1, -1, 0, 0, ()))
        self.are(False, ("state", 1, 0, -1, 0, ()), ("state", 1, 0, 0, -1, ()))
        self.are(False, ("state", 1, 0, GREAT + 1, 0, ()), ("state", 1, 0, 0, GREAT + 1, ()))

    def test_parts_of_other_kinds(self):
        for thing in ODD:
            if thing != "state":
                self.are(False, exchanged(STATE, 0, thing))
        self.are(False, *[exchanged(STATE, 1, number) for number in NOT_COUNTS])
        self.are(False, *[exchanged(STATE, at, number) for at in (2, 3, 4) for number in NOT_TIMES])
        self.are(False, *[exchanged(STATE, 5, thing) for thing in [*ODD, *NOT_LISTS] if thing != ()])
        self.are(False, exchanged(STATE, 0, "State"), exchanged(STATE, 0, "states"), exchanged(STATE, 0, ""))

    def test_promises(self):
        for at, least, most in ((0, 1, 2), (1, 0, 1), (2, 1, MOST), (3, 0, DIGEST), (4, 0, 10 ** 39)):
            self.are(True, with_promise(at, least), with_promise(at, most))
            self.are(False, with_promise(at, least - 1))
            if at < 4 and at != 0:
                self.are(False, with_promise(at, most + 1))
        self.are(False, *[with_promise(0, number) for number in NOT_COUNTS])
        self.are(False, *[with_promise(1, number) for number in NOT_NUMBERS + [2, -1]])
        self.are(False, *[with_promise(2, number) for number in NOT_AMOUNTS])
        self.are(False, *[with_promise(at, number) for at in (3, 4) for number in NOT_TIMES])

    def test_promises_of_other_forms(self):
        for promise in [*ODD, list(PROMISES[0]), PROMISES[0][:4], (*PROMISES[0], 1), ("promise", *PROMISES[0]), (PROMISES[0],)]:
            self.are(False, exchanged(STATE, 5, (promise,)), exchanged(STATE, 5, (promise, PROMISES[1])))
        self.are(False, exchanged(STATE, 5, list(PROMISES)), exchanged(STATE, 5, PROMISES[0]), exchanged(STATE, 5, {1: 2}))

    def test_four_promises_and_five(self):
        for many in range(7):
            promises = tuple((mark, 0, 1, 0, 0) for mark in range(1, many + 1))
            self.are(many <= 4, exchanged(STATE, 5, promises))

    def test_marks_rise(self):
        for marks, right in (
            ((1, 2), True), ((5, 9), True), ((1, 1), False), ((2, 1), False), ((1, 2, 3, 4), True), ((1, 2, 2, 4), False), ((1, 3, 2, 4), False),
            ((1, 2, 4, 3), False), ((2, 1, 3, 4), False), ((9, 10, 11, 100), True), ((7,), True), ((1, 2, 3, 1), False), ((3, 1, 2, 4), False),
        ):
            self.are(right, exchanged(STATE, 5, tuple((mark, 1, 1, 0, 0) for mark in marks)))

    def test_other_lengths_and_kinds(self):
        self.are(False, *ODD, 0, 1, STATE[:5], STATE[1:], (*STATE, ()), list(STATE), (STATE,), [STATE], TEXT, {"state": STATE}, ("state",))
        self.are(False, *[thing for thing in (STATE[::-1], (STATE, 1, 2), ("state", STATE))])


class Worth(Case):

    def test_all_together(self):
        self.assertEqual(worth(STATE), 61)
        self.assertEqual(worth(state=("state", 1, 0, 0, 0, ())), 0)
        self.assertEqual(worth(("state", 1, 0, GREAT, GREAT, tuple((mark, 0, MOST, 0, 0) for mark in range(1, 5)))), 2 * GREAT + 4 * MOST)
        self.assertEqual(worth(("state", 9, 9, 1, 0, ())), 1)
        self.assertEqual(worth(("state", 9, 9, 0, 2, ((7, 1, 4, 99, 99),))), 6)

    def test_no_state(self):
        for thing in [*ODD, list(STATE), STATE[:5], with_promise(2, 0), exchanged(STATE, 3, True), exchanged(STATE, 5, list(PROMISES))]:
            self.refused(NoState, {}, worth, thing)
            self.refused(NoState, {}, state_text, thing)
            self.refused(NoState, {}, worth, state=thing)
            self.refused(NoState, {}, state_text, state=thing)


class Texts(Case):

    def test_word_for_word(self):
        self.assertEqual(state_text(STATE), TEXT)
        self.assertEqual(state_text(state=("state", 1, 0, 0, 0, ())), "state 1 0 0 0")
        great = ("state", 10 ** 39, 10, GREAT, 9, ((10, 1, MOST, DIGEST, 100),))
        self.assertEqual(state_text(great), "state " + "1" + "0" * 39 + " 10 10000000000 9 / 10 1 1000000000 1" + "0" * 30 + " 100")

    def test_there_and_back(self):
        self.assertEqual(repr(read_state(TEXT)), repr(STATE))
        self.assertEqual(repr(read_state(text="state 1 0 0 0")), repr(("state", 1, 0, 0, 0, ())))
        for seed in range(300):
            state = some_state(random.Random(seed))
            self.assertTrue(is_state(state))
            self.assertEqual(repr(read_state(state_text(state))), repr(state))

    def test_one_sign_otherwise(self):
        """Each text is refused, or is just what the state that is told has as its text."""
        read = 0
        for text in (TEXT, "state 1 0 0 0", "state 10 0 0 7 / 9 1 1 0 10"):
            for at in range(len(text) + 1):
                for sign in " /0123456789-+_.,staeSTATE\n\t":
                    for spoiled in (text[:at] + sign + text[at:], text[:at] + sign + text[at + 1:], text[:at] + text[at + 1:]):
                        try:
                            state = read_state(spoiled)
                        except NoState:
                            continue
                        read += spoiled != text
                        self.assertTrue(is_state(state))
                        self.assertEqual(state_text(state), spoiled)
        self.assertGreater(read, 200)

    def test_no_state(self):
        for text in (
            "", " ", "state", "state ", "state 3 8 20", "state 3 8 20 ", "state 3 8 20 30 ", " state 3 8 20 30", "state 3 8 20 30\n", "\nstate 3 8 20 30",
            "state  3 8 20 30", "state 3 8 20  30", "State 3 8 20 30", "STATE 3 8 20 30", "states 3 8 20 30", "3 8 20 30", "state 3 8 20 30 1",
            "state 03 8 20 30", "state 3 08 20 30", "state 3 8 020 30", "state 3 8 20 00", "state +3 8 20 30", "state 3 -0 20 30", "state 3 8 -20 30",
            "state 3 8 2_0 30", "state 3 8 20.0 30", "state 3 8 0x20 30", "state 3 8 x 30", "state 3 8 True 30", "state 3 8 2 0 30", "state\n3 8 20 30",
            "state 0 8 20 30", "state 3 8 10000000001 30", "state 3 8 20 10000000001", "state 3 8 20 30 /", "state 3 8 20 30 / ", "state 3 8 20 30 / 1",
            "state 3 8 20 30 / 1 0 5 77", "state 3 8 20 30 / 1 0 5 77 9 1", "state 3 8 20 30 / 1 0 5 77 9 /", "state 3 8 20 30 / 1 0 5 77 9 / ",
            "state 3 8 20 30 1 0 5 77 9", "state 3 8 20 30 /1 0 5 77 9", "state 3 8 20 30/ 1 0 5 77 9", "state 3 8 20 30 / / 1 0 5 77 9",
            "state 3 8 20 30 // 1 0 5 77 9", "state 3 8 20 30 | 1 0 5 77 9", "state 3 8 20 30 1 1 0 5 77 9", "state 3 8 20 30 / 0 0 5 77 9",
            "state 3 8 20 30 / 1 2 5 77 9", "state 3 8 20 30 / 1 0 0 77 9", "state 3 8 20 30 / 1 0 1000000001 77 9", "state 3 8 20 30 / 1 0 5 -1 9",
            "state 3 8 20 30 / 1 0 5 1" + "0" * 29 + "1 9", "state 3 8 20 30 / 1 0 5 77 -1", "state 3 8 20 30 / 1 0 5 77 09",
            "state 3 8 20 30 / 1 0 5 77 9 / 1 0 5 77 9", "state 3 8 20 30 / 2 0 5 77 9 / 1 0 5 77 9", "state 3 8 20 30 / 1 0 5 / 77 9",
            "state 3 8 20 30" + "".join(f" / {mark} 0 5 77 9" for mark in range(1, 6)), "state " + "1" * 7990, "/ 3 8 20 30", "state 3 8 20 /",
            "state 3 8 20 30 / 1 0 5 77 x", "state 3 8 20 30 / 1 0 5 77 9 / 2 0 5 77", "state / 8 20 30", "close 3 20 30",
        ):
            self.refused(NoState, {}, read_state, text)
        self.refused(NoState, {}, read_state, text="state 1 0 0")

    def test_long_texts(self):
        self.refused(NoState, {}, read_state, "state 1 0 0 0" + " / 1 0 1 0 0" * 600)
        self.refused(NoState, {}, read_state, "state 1 0 0 " + "0" * 7000)
        self.refused(NoState, {}, read_state, "state 1 0 0 " + "9" * 7000)
        self.refused(NoState, {}, read_state, "state 1 0 0 0 / 1 0 " + "9" * 5000 + " 0 0")
        self.assertEqual(read_state("state " + "9" * 40 + " 0 0 0"), ("state", int("9" * 40), 0, 0, 0, ()))

    def test_no_text(self):
        for thing in [*ODD, 0, 1, STATE, [TEXT], (TEXT,), {TEXT: TEXT}, list(TEXT), TEXT.split()]:
            self.refused(NoState, {}, read_state, thing)


if __name__ == "__main__":
    unittest.main()

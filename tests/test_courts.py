"""[80], [81], [82], [4], [2] (a): the court, its pools, its board, and what goes when time goes on."""

import copy
import random
import unittest

from clearyard.courts import Court
from clearyard.errors import Done, NoAmount, NoName, NoPool, NoSeal, NoState, NoTime, Short, YardError
from clearyard.ledger import Ledger, ledger_of
from clearyard.states import state_text
from things import (
    DIGEST, MOST, NOT_COUNTS, NOT_DIGESTS, NOT_LISTS, NOT_NAMES, NOT_NUMBERS, NOT_SECRETS, NOT_TIMES, ODD, Asked, Case, digest,
)

NAMES = ("ann", "bob", "cid")
KEYS = ("anns", "bobs")
OPEN, SHUT = digest("lock open"), digest("lock shut")


def sealed(state, keys=KEYS, told=digest):
    return (state, *[told(key + " " + state_text(state)) for key in keys])


def state_of(number, turn, x, y, *promises):
    return ("state", number, turn, x, y, promises)


def agreed(number, x, y, keys=KEYS, told=digest):
    return [told(f"{key} close {number} {x} {y}") for key in keys]


class AtCourt(Case):

    def setUp(self):
        self.start(digest)

    def start(self, told):
        self.ledger = Ledger()
        for name in NAMES:
            self.ledger.enter(name)
            self.ledger.put(name, 100)
        self.court = Court(self.ledger, told)

    def frees(self):
        return tuple(self.ledger.free(name) for name in NAMES)

    def stand(self):
        return copy.deepcopy((
            self.ledger.rows(), self.frees(), self.ledger.pots(), self.court.now(), self.court.board(), self.court.pools(),
        ))

    def kept(self, refusal, fields, call, *parts, **named):
        """That the call is refused, and nothing is changed by it."""
        before = self.stand()
        self.refused(refusal, fields, call, *parts, **named)
        self.assertEqual(self.stand(), before)

    def found(self, x=20, y=30, keys=KEYS, wait=5):
        return self.court.found("ann", "bob", x, y, keys, wait)

    def pool(self, number=1):
        return self.court.pools()[number]


class Found(AtCourt):

    def test_by_place_and_by_name(self):
        self.assertEqual((self.court.pools(), self.court.now(), self.court.board()), ({}, 0, {}))
        self.assertEqual(self.court.found("ann", "bob", 20, 30, list(KEYS), 5), 1)
        self.assertEqual(self.ledger.rows()[-1], ("lock", (("ann", -20), ("bob", -30), (1, 50))))
        self.assertEqual(self.court.found(wait=100, keys=("k", "l"), y=MOST - MOST, x=7, other="ann", one="cid"), 2)
        self.assertEqual(self.ledger.rows()[-1], ("lock", (("cid", -7), (2, 7))))
        self.assertEqual(self.frees(), (80, 70, 93))
        self.assertEqual(repr(self.court.pools()), repr({
            1: ("ann", "bob", 5, ("state", 1, 0, 20, 30, ()), "open", None), 2: ("cid", "ann", 100, ("state", 2, 0, 7, 0, ()), "open", None),
        }))

    def test_by_name_at_the_start(self):
        court = Court(digest=digest, ledger=self.ledger)
        self.assertEqual(court.found("bob", "ann", 0, 1, KEYS, 2), 1)
        self.assertEqual(self.ledger.rows()[-1], ("lock", (("bob", -0), (1, 1)))[:1] + ((("ann", -1), (1, 1)),))
        self.assertEqual(court.pools(), {1: ("bob", "ann", 2, ("state", 1, 0, 0, 1, ()), "open", None)})

    def test_numbers_are_the_ledgers(self):
        self.ledger.lock([("cid", 1)])
        self.assertEqual(self.found(1, 0), 2)
        self.ledger.lock([("cid", 1)])
        self.assertEqual(self.found(0, 1), 4)
        self.assertEqual(list(self.court.pools()), [2, 4])

    def test_much(self):
        self.ledger.put("ann", MOST)
        self.ledger.put("bob", MOST)
        self.assertEqual(self.found(MOST, MOST), 1)
        self.assertEqual(self.ledger.pots(), {1: 2 * MOST})
        self.court.leave(1)
        self.assertEqual(self.court.on(5), [(1, "ann", MOST), (1, "bob", MOST)])

    def test_refusals_in_order(self):
        found = self.court.found
        for name in [*NOT_NAMES, "zoe"]:
            self.kept(NoName, {"name": name}, found, name, "zoe", None, None, None, None)
            self.kept(NoName, {"name": name}, found, name, name, 1, 1, KEYS, 5)
            self.kept(NoName, {"name": name}, found, "ann", name, None, None, None, None)
            self.kept(NoName, {"name": name}, found, "ann", name, 1, 1, KEYS, 5)
        self.kept(NoName, {"name": "ann"}, found, "ann", "ann", 1, 1, KEYS, 5)
        self.kept(NoName, {"name": "ann"}, found, "ann", "ann", 0, 0, None, 0)
        for stake in [*NOT_TIMES, MOST + 1, 10 ** 39]:
            self.kept(NoAmount, {}, found, "ann", "bob", stake, 1, KEYS, 5)
            self.kept(NoAmount, {}, found, "ann", "bob", 1, stake, KEYS, 5)
            self.kept(NoAmount, {}, found, "ann", "bob", 0, stake, None, None)
        self.kept(NoAmount, {}, found, "ann", "bob", 0, 0, KEYS, 5)
        for keys in [*[thing for thing in [*ODD, *NOT_LISTS] if thing not in (["a", "b"], ("a", "b"))], ("a",), ("a", "b", "c"), ["a", "a"], ("a", "a"), KEYS[0]]:
            self.kept(NoSeal, {}, found, "ann", "bob", 1, 1, keys, 5)
            self.kept(NoSeal, {}, found, "ann", "bob", 101, 1, keys, None)
        for key in NOT_SECRETS:
            self.kept(NoSeal, {}, found, "ann", "bob", 1, 1, (key, "b"), 5)
            self.kept(NoSeal, {}, found, "ann", "bob", 1, 1, ["a", key], 5)
        for wait in [*NOT_NUMBERS, 0, 1, -2, 101, 10 ** 39]:
            self.kept(NoTime, {"time": wait}, found, "ann", "bob", 1, 1, KEYS, wait)
            self.kept(NoTime, {"time": wait}, found, "ann", "bob", 101, 101, KEYS, wait)
        self.kept(Short, {"name": "ann"}, found, "ann", "bob", 101, 101, KEYS, 5)
        self.kept(Short, {"name": "bob"}, found, "bob", "ann", 101, 101, KEYS, 5)
        self.kept(Short, {"name": "bob"}, found, "ann", "bob", 100, 101, KEYS, 5)
        self.kept(Short, {"name": "bob"}, found, "ann", "bob", 0, 101, KEYS, 5)
        self.assertEqual(found("ann", "bob", 100, 100, ("a", "z" * 20), 2), 1)

    def test_keys_handed_in_may_be_changed(self):
        keys = list(KEYS)
        self.found(keys=keys)
        keys[0] = "cids"
        self.court.post(sealed(state_of(1, 1, 50, 0)))
        self.assertEqual(self.pool()[4], "closing")


class Post(AtCourt):

    def setUp(self):
        super().setUp()
        self.found()

    def test_an_open_pool_closes(self):
        self.court.on(3)
        state = state_of(1, 4, 10, 30, (1, 0, 10, OPEN, 20))
        self.assertIsNone(self.court.post(sealed(state)))
        self.assertEqual(self.pool(), ("ann", "bob", 5, state, "closing", 8))
        self.assertEqual((self.frees(), self.ledger.pots()), ((80, 70, 100), {1: 50}))

    def test_by_name(self):
        self.court.post(sealed=sealed(state_of(1, 1, 0, 50)))
        self.assertEqual(self.pool()[3:], (state_of(1, 1, 0, 50), "closing", 5))

    def test_later_ones_stand_and_the_end_stays(self):
        self.court.post(sealed(state_of(1, 3, 10, 40)))
        self.court.on(4)
        for turn in (1, 2, 3):
            self.kept(Done, {"number": 1}, self.court.post, sealed(state_of(1, turn, 20, 30)))
        self.kept(Done, {"number": 1}, self.court.post, sealed(state_of(1, 3, 10, 40)))
        self.court.post(sealed(state_of(1, 4, 50, 0)))
        self.assertEqual(self.pool()[3:], (state_of(1, 4, 50, 0), "closing", 5))
        self.court.post(sealed(state_of(1, 10 ** 39, 1, 49)))
        self.assertEqual(self.pool()[3:], (state_of(1, 10 ** 39, 1, 49), "closing", 5))
        self.assertEqual(self.court.on(5), [(1, "ann", 1), (1, "bob", 49)])

    def test_behind_leave(self):
        self.court.leave(1)
        self.court.on(2)
        self.court.post(sealed(state_of(1, 1, 50, 0)))
        self.assertEqual(self.pool()[3:], (state_of(1, 1, 50, 0), "closing", 5))

    def test_no_state(self):
        state, one, other = sealed(state_of(1, 1, 50, 0))
        for thing in [*ODD, 0, 1, state, (state,), (state, one), (state, one, other, 0), [state, one, other], (list(state), one, other), (one, other, state)]:
            self.kept(NoState, {}, self.court.post, thing)
        for seal in NOT_DIGESTS:
            self.kept(NoState, {}, self.court.post, (state, seal, other))
            self.kept(NoState, {}, self.court.post, (state, one, seal))
        for number in (1, 2, 9):
            self.kept(NoState, {}, self.court.post, sealed(state_of(number, 0, 20, 30)))
        self.kept(NoState, {}, self.court.post, (state_of(9, 1, True, 0), one, DIGEST + 1))

    def test_refusals_in_order(self):
        self.found(1, 1)
        self.found(1, 1)
        self.court.leave(2)
        self.court.on(5)
        self.court.post(sealed(state_of(1, 5, 50, 0, )))
        # Of none: whatever its worth and its seals are.
        for number in (2, 4, 10 ** 39):
            self.kept(NoPool, {"number": number}, self.court.post, (state_of(number, 1, 7, 7), 0, 0))
        # One that is closed: whatever its worth, its seals and its turn are.
        self.court.post(sealed(state_of(3, 5, 1, 0, (1, 0, 1, OPEN, 99))))
        self.court.on(10)
        self.assertEqual(list(self.court.pools()), [3])
        for state in (state_of(3, 1, 7, 7), state_of(3, 6, 1, 0, (1, 0, 1, OPEN, 99))):
            self.kept(Done, {"number": 3}, self.court.post, (state, 0, 0))
            self.kept(Done, {"number": 3}, self.court.post, sealed(state))
        # Of another worth: whatever its seals and its turn are.
        self.court.found("ann", "bob", 20, 30, KEYS, 5)
        for closing in (False, True):
            for x, y in ((50, 1), (49, 0), (0, 0), (20, 30 + MOST)):
                for turn in (1, 5, 6):
                    self.kept(NoState, {}, self.court.post, sealed(state_of(4, turn, x, y)))
                    self.kept(NoState, {}, self.court.post, (state_of(4, turn, x, y), 0, 0))
            self.kept(NoState, {}, self.court.post, sealed(state_of(4, 6, 20, 30, (1, 0, 1, OPEN, 9))))
            # Of wrong seals: whatever its turn is.
            for turn in (1, 5, 6):
                state, one, other = sealed(state_of(4, turn, 20, 30))
                for seals in ((one, one), (other, one), (0, other), (one, DIGEST), (one + 1, other)):
                    self.kept(NoSeal, {}, self.court.post, (state, *seals))
                self.kept(NoSeal, {}, self.court.post, sealed(state, KEYS[::-1]))
                self.kept(NoSeal, {}, self.court.post, sealed(state, ("anns", "cids")))
            if not closing:
                self.court.post(sealed(state_of(4, 5, 0, 50)))
        for turn in (1, 4, 5):
            self.kept(Done, {"number": 4}, self.court.post, sealed(state_of(4, turn, 50, 0)))

    def test_seals_of_another_state(self):
        state, one, other = sealed(state_of(1, 1, 50, 0))
        for wrong in (state_of(1, 2, 50, 0), state_of(1, 1, 49, 1), state_of(1, 1, 0, 50), state_of(1, 1, 49, 0, (1, 0, 1, 0, 0))):
            self.kept(NoSeal, {}, self.court.post, (wrong, one, other))

    def test_keys_of_another_pool(self):
        self.found(keys=("cids", "bobs"))
        self.kept(NoSeal, {}, self.court.post, sealed(state_of(2, 1, 50, 0)))
        self.court.post(sealed(state_of(2, 1, 50, 0), ("cids", "bobs")))
        self.kept(NoSeal, {}, self.court.post, sealed(state_of(1, 1, 50, 0), ("cids", "bobs")))


class Leave(AtCourt):

    def test_closing_by_the_first_state(self):
        self.found(wait=7)
        self.court.on(2)
        self.assertIsNone(self.court.leave(1))
        self.assertEqual(self.pool(), ("ann", "bob", 7, ("state", 1, 0, 20, 30, ()), "closing", 9))
        self.assertEqual(self.court.on(8), [])
        self.assertEqual(self.court.on(9), [(1, "ann", 20), (1, "bob", 30)])
        self.assertEqual((self.frees(), self.court.pools()), ((100, 100, 100), {}))

    def test_refusals(self):
        self.found()
        self.found()
        self.found()
        self.ledger.lock([("cid", 9)])
        self.court.leave(number=1)
        self.court.post(sealed(state_of(2, 1, 45, 0, (1, 0, 5, OPEN, 9))))
        for number in [*NOT_COUNTS, 4, 5, 10 ** 39]:
            self.kept(NoPool, {"number": number}, self.court.leave, number)
        for number in (1, 2):
            self.kept(Done, {"number": number}, self.court.leave, number)
        self.court.on(5)
        self.kept(NoPool, {"number": 1}, self.court.leave, 1)
        self.kept(Done, {"number": 2}, self.court.leave, 2)
        self.court.leave(3)


class Agree(AtCourt):

    def test_of_an_open_pool(self):
        self.found()
        self.assertIsNone(self.court.agree(1, 45, 5, agreed(1, 45, 5)))
        self.assertEqual(self.ledger.rows()[-1], ("share", ((1, -50), ("ann", 45), ("bob", 5))))
        self.assertEqual((self.frees(), self.ledger.pots(), self.court.pools()), ((125, 75, 100), {}, {}))
        for call in (lambda: self.court.leave(1), lambda: self.court.agree(1, 45, 5, agreed(1, 45, 5)), lambda: self.court.post(sealed(state_of(1, 1, 50, 0)))):
            self.kept(NoPool, {"number": 1}, call)
        self.assertEqual(self.court.on(99), [])

    def test_of_a_closing_one_whatever_stands(self):
        self.found()
        self.court.post(sealed(state_of(1, 9, 0, 10, (1, 0, 40, OPEN, 99))))
        self.court.on(4)
        self.court.agree(seals=tuple(agreed(1, 50, 0)), y=0, x=50, number=1)
        self.assertEqual(self.ledger.rows()[-1], ("share", ((1, -50), ("ann", 50))))
        self.assertEqual((self.frees(), self.court.pools()), ((130, 70, 100), {}))

    def test_all_to_the_other(self):
        self.court.found("cid", "ann", 7, 0, KEYS, 5)
        self.court.agree(1, 0, 7, agreed(1, 0, 7))
        self.assertEqual(self.ledger.rows()[-1], ("share", ((1, -7), ("ann", 7))))

    def test_more_than_an_amount(self):
        self.ledger.put("ann", MOST)
        self.ledger.put("bob", MOST)
        self.found(MOST, MOST)
        self.court.agree(1, 2 * MOST, 0, agreed(1, 2 * MOST, 0))
        self.assertEqual(self.frees(), (100 + 2 * MOST, 100, 100))

    def test_refusals_in_order(self):
        self.found()
        self.found(25, 25)
        self.court.leave(1)
        self.court.on(5)
        self.court.post(sealed(state_of(2, 1, 25, 20, (1, 0, 5, OPEN, 99))))
        self.found(1, 9)
        agree = self.court.agree
        for number in [*NOT_COUNTS, 1, 4, 10 ** 39]:
            self.kept(NoPool, {"number": number}, agree, number, None, None, None)
            self.kept(NoPool, {"number": number}, agree, number, 20, 30, agreed(number, 20, 30))
        for number, worth in ((2, 50), (3, 10)):
            for x in NOT_TIMES:
                self.kept(NoAmount, {}, agree, number, x, worth, agreed(number, x, worth))
                self.kept(NoAmount, {}, agree, number, worth, x, None)
            for x, y in ((worth, 1), (worth - 1, 0), (0, 0), (worth + 1, -1), (-1, worth + 1), (True, worth - 1), (worth - 1, True), (worth, False)):
                self.kept(NoAmount, {}, agree, number, x, y, agreed(number, x, y))
            one, other = agreed(number, worth, 0)
            for seals in [*ODD, *NOT_LISTS, (one,), (one, other, 0), (other, one), (one, one), [0, 0], [one, other + 1], {one: other}, {0: one, 1: other}]:
                self.kept(NoSeal, {}, agree, number, worth, 0, seals)
            for seal in NOT_DIGESTS:
                self.kept(NoSeal, {}, agree, number, worth, 0, [one, seal])
                self.kept(NoSeal, {}, agree, number, worth, 0, (seal, other))
            self.kept(NoSeal, {}, agree, number, 0, worth, [one, other])
            self.kept(NoSeal, {}, agree, number, worth, 0, agreed(5 - number, worth, 0))
            self.kept(NoSeal, {}, agree, number, worth, 0, agreed(number, worth, 0, KEYS[::-1]))
        self.court.on(10)
        self.assertEqual(self.pool(2)[4], "closed")
        self.kept(Done, {"number": 2}, agree, 2, None, None, None)
        self.kept(Done, {"number": 2}, agree, 2, 50, 0, agreed(2, 50, 0))
        self.kept(Done, {"number": 2}, agree, 2, 5, 0, agreed(2, 5, 0))

    def test_seals_that_are_truths(self):
        for number, truth in ((0, False), (1, True)):
            self.start(lambda text: number)
            self.found()
            for seals in ((truth, number), (number, truth), (truth, truth)):
                self.kept(NoSeal, {}, self.court.agree, 1, 50, 0, seals)
                self.kept(NoState, {}, self.court.post, (state_of(1, 1, 50, 0), *seals))
            self.court.agree(1, 50, 0, (number, number))

    def test_the_text(self):
        asked = Asked()
        self.start(asked)
        self.found()
        self.court.agree(1, 45, 5, agreed(1, 45, 5))
        self.assertEqual(asked.texts, ["anns close 1 45 5", "bobs close 1 45 5"])


class Show(AtCourt):

    def test_the_time_at_which_it_was_first_shown(self):
        self.assertIsNone(self.court.show("open"))
        self.court.on(3)
        self.court.show(secret="a")
        self.court.show("open")
        self.court.on(4)
        self.court.show("a")
        self.court.show("z" * 20)
        self.assertEqual(self.court.board(), {"a": 3, "open": 0, "z" * 20: 4})
        self.assertEqual(list(self.court.board()), ["a", "open", "z" * 20])

    def test_no_secret(self):
        for secret in NOT_SECRETS:
            self.kept(NoSeal, {}, self.court.show, secret)

    def test_opened(self):
        self.court.on(4)
        self.court.show("open")
        self.assertIsNone(self.court.opened(OPEN, 4))
        self.assertEqual(self.court.opened(OPEN, 5), "open")
        self.assertEqual(self.court.opened(until=10 ** 39, lock=OPEN), "open")
        for lock in (SHUT, 0, OPEN + 1):
            self.assertIsNone(self.court.opened(lock, 5))
        self.assertIsNone(self.court.opened(OPEN, 0))

    def test_the_least_of_several_that_was_shown_in_time(self):
        self.start(lambda text: 7 if text in ("lock a", "lock b", "lock c") else 8)
        self.court.show("d")
        for time, secret in ((1, "c"), (2, "a"), (3, "b")):
            self.court.on(time)
            self.court.show(secret)
        self.assertEqual([self.court.opened(7, until) for until in range(6)], [None, None, "c", "a", "a", "a"])
        self.assertEqual([self.court.opened(8, until) for until in range(3)], [None, "d", "d"])
        self.assertIsNone(self.court.opened(9, 99))


class On(AtCourt):

    def test_now(self):
        for time in (0, 1, 1, 5, 10 ** 39):
            self.assertEqual(self.court.on(time), [])
            self.assertEqual(self.court.now(), time)

    def test_no_time(self):
        self.found()
        self.court.leave(1)
        self.court.on(time=4)
        for time in [*NOT_TIMES, 0, 3]:
            self.kept(NoTime, {"time": time}, self.court.on, time)
        self.assertEqual(self.court.on(4), [])

    def test_an_open_pool_stays(self):
        self.found()
        self.assertEqual(self.court.on(10 ** 39), [])
        self.assertEqual(self.pool()[4:], ("open", None))

    def closed(self, *promises, x=20, wait=5):
        """A pool of 50 that is closing by a state with these promises."""
        number = self.found(wait=wait)
        y = 50 - x - sum(promise[2] for promise in promises)
        self.court.post(sealed(state_of(number, 1, x, y, *promises)))
        return number, y

    def test_closed_at_its_end(self):
        number, y = self.closed((1, 0, 5, OPEN, 50))
        self.assertEqual(self.court.on(4), [])
        self.assertEqual(self.pool()[4:], ("closing", 5))
        self.assertEqual(self.court.on(5), [(1, "ann", 20), (1, "bob", 25)])
        self.assertEqual(self.ledger.rows()[-1], ("share", ((1, -45), ("ann", 20), ("bob", 25))))
        self.assertEqual(self.pool(), ("ann", "bob", 5, state_of(1, 1, 20, 25, (1, 0, 5, OPEN, 50)), "closed", 5))
        self.assertEqual(self.ledger.pots(), {1: 5})
        self.assertEqual(self.court.on(6), [])

    def test_noughts_are_left_out(self):
        self.found()
        self.court.post(sealed(state_of(1, 1, 0, 50)))
        self.assertEqual(self.court.on(5), [(1, "bob", 50)])
        self.found()
        self.court.post(sealed(state_of(2, 1, 0, 0, (1, 0, 50, OPEN, 99))))
        rows = self.ledger.rows()
        self.assertEqual(self.court.on(10), [])
        self.assertEqual(self.ledger.rows(), rows)
        self.assertEqual(self.pool(2)[3:], (state_of(2, 1, 0, 0, (1, 0, 50, OPEN, 99)), "closed", 10))
        self.assertEqual(self.court.on(99), [(2, "ann", 50)])
        self.assertEqual((self.court.pools(), self.ledger.pots()), ({}, {}))

    def test_secrets_shown_ahead_of_at_and_behind_until(self):
        for shown, until, to in ((0, 1, 1), (4, 5, 1), (5, 5, 0), (6, 5, 0), (6, 7, 1), (7, 7, 0), (8, 7, 0), (None, 7, 0), (None, 3, 0)):
            for by in (0, 1):
                self.start(digest)
                self.closed((1, by, 10, OPEN, until))
                for time in range(0, 12):
                    self.court.on(time)
                    if time == shown:
                        self.court.show("open")
                self.court.on(12)
                gains = [20, 20]
                gains[to if by == 0 else 1 - to] += 10
                self.assertEqual(self.frees()[:2], (80 + gains[0], 70 + gains[1]))
                self.assertEqual(self.court.pools(), {})

    def test_when_a_promise_goes(self):
        self.closed((1, 0, 10, OPEN, 9), (2, 1, 3, SHUT, 8))
        self.assertEqual(self.court.on(5), [(1, "ann", 20), (1, "bob", 17)])
        self.assertEqual(self.court.on(6), [])
        self.court.show("open")
        # Of a secret shown in time it goes at the next step, ahead of until.
        self.assertEqual(self.court.on(6), [(1, "bob", 10)])
        self.assertEqual(self.pool()[3:], (state_of(1, 1, 20, 17, (2, 1, 3, SHUT, 8)), "closed", 5))
        self.assertEqual(self.court.on(7), [])
        self.assertEqual(self.court.on(8), [(1, "bob", 3)])
        self.assertEqual(self.court.pools(), {})

    def test_of_a_closing_one_no_promise_goes(self):
        self.closed((1, 0, 10, OPEN, 3))
        self.court.show("open")
        self.assertEqual(self.court.on(4), [])
        self.assertEqual(self.court.on(5), [(1, "ann", 20), (1, "bob", 30)])

    def test_all_that_goes_of_one_pool_is_one_share(self):
        self.closed((1, 0, 4, OPEN, 9), (2, 1, 5, OPEN, 9), (3, 0, 2, SHUT, 5), (4, 1, 1, SHUT, 6))
        self.court.show("open")
        rows = self.ledger.rows()
        self.assertEqual(self.court.on(5), [(1, "ann", 20 + 5 + 2), (1, "bob", 18 + 4)])
        self.assertEqual(self.ledger.rows(), rows + [("share", ((1, -49), ("ann", 27), ("bob", 22)))])
        self.assertEqual(self.pool()[3], state_of(1, 1, 20, 18, (4, 1, 1, SHUT, 6)))

    def test_one_first_though_names_fall(self):
        self.court.found("cid", "bob", 5, 5, KEYS, 2)
        self.court.leave(1)
        self.assertEqual(self.court.on(2), [(1, "cid", 5), (1, "bob", 5)])
        self.assertEqual(self.ledger.rows()[-1], ("share", ((1, -10), ("bob", 5), ("cid", 5))))

    def test_several_pools_at_one_time(self):
        self.found(5, 5, wait=9)
        self.court.found("bob", "cid", 5, 5, KEYS, 3)
        self.court.found("cid", "ann", 5, 5, KEYS, 9)
        for number in (3, 2):
            self.court.post(sealed(state_of(number, 1, 6, 0, (1, 0, 1, OPEN, 9), (2, 1, 1, OPEN, 20), (3, 1, 2, SHUT, 20))))
        self.court.leave(1)
        self.court.show("open")
        rows = self.ledger.rows()
        self.assertEqual(self.court.on(9), [
            (1, "ann", 5), (1, "bob", 5), (2, "bob", 7), (2, "cid", 1), (3, "cid", 7), (3, "ann", 1),
        ])
        self.assertEqual(self.ledger.rows(), rows + [
            ("share", ((1, -10), ("ann", 5), ("bob", 5))), ("share", ((2, -8), ("bob", 7), ("cid", 1))), ("share", ((3, -8), ("ann", 1), ("cid", 7))),
        ])
        self.assertEqual({number: (pool[3][5], pool[4], pool[5]) for number, pool in self.court.pools().items()}, {
            2: (((3, 1, 2, SHUT, 20),), "closed", 3), 3: (((3, 1, 2, SHUT, 20),), "closed", 9),
        })
        self.assertEqual(self.court.on(20), [(2, "cid", 2), (3, "ann", 2)])
        self.assertEqual((self.court.pools(), self.ledger.pots()), ({}, {}))

    def test_any_secret_of_the_lock(self):
        self.start(lambda text: 7 if text in ("lock a", "lock b") else 8)
        number = self.found()
        self.court.post((state_of(number, 1, 20, 20, (1, 0, 10, 7, 3)), 8, 8))
        self.court.on(2)
        self.court.show("b")
        self.court.on(3)
        self.court.show("a")
        self.assertEqual(self.court.on(5), [(1, "ann", 20), (1, "bob", 30)])

    def test_told_is_the_askers_own(self):
        self.closed((1, 0, 10, OPEN, 9))
        self.court.show("open")
        for told in (self.court.pools(), self.court.board()):
            told.clear()
        stand = self.stand()
        self.court.pools()[1] = self.court.board()["shut"] = None
        self.assertEqual(self.stand(), stand)
        self.court.on(5).clear()
        self.assertEqual(self.court.on(5), [])


class Spoiled(AtCourt):

    def start(self, told):
        self.asked = Asked()
        super().start(self.asked)

    def test_errors_of_the_digest(self):
        at_each = self.spoiled_at_each
        for _ in range(3):
            self.assertIn(at_each(self.asked, self.stand, self.found)[0], (0,))
        self.assertEqual(at_each(self.asked, self.stand, self.court.post, sealed(state_of(1, 1, 20, 20, (1, 0, 10, OPEN, 9)))), (2, None))
        self.assertEqual(at_each(self.asked, self.stand, self.court.post, sealed(state_of(1, 2, 20, 20, (1, 0, 10, OPEN, 9)))), (2, None))
        self.assertEqual(at_each(self.asked, self.stand, self.court.agree, 2, 50, 0, agreed(2, 50, 0)), (2, None))
        self.assertEqual(at_each(self.asked, self.stand, self.court.leave, 3), (0, None))
        self.assertEqual(at_each(self.asked, self.stand, self.court.show, "shut"), (0, None))
        self.court.show("a")
        many, told = at_each(self.asked, self.stand, self.court.on, 5)
        self.assertEqual(told, [(1, "ann", 20), (1, "bob", 20), (3, "ann", 20), (3, "bob", 30)])
        self.assertGreater(many, 1)
        self.court.show("open")
        many, told = at_each(self.asked, self.stand, self.court.opened, OPEN, 9)
        self.assertEqual(told, "open")
        self.assertGreater(many, 1)
        many, told = at_each(self.asked, self.stand, self.court.on, 9)
        self.assertEqual(told, [(1, "bob", 10)])
        self.assertGreater(many, 1)

    def test_refused_ahead_of_it(self):
        self.found()
        self.asked.left = 0
        self.kept(NoState, {}, self.court.post, (state_of(1, 1, 1, 1), 0, 0))
        self.kept(NoAmount, {}, self.court.agree, 1, 1, 1, (0, 0))
        self.kept(NoSeal, {}, self.court.agree, 1, 50, 0, (True, 0))
        self.kept(NoSeal, {}, self.court.show, "")
        self.assertEqual(self.court.on(3), [])


class Model:
    """The court by the words of its points, one tick of time by one: what each name got of each pool."""

    def __init__(self):
        self.now, self.board, self.pools, self.got = 0, {}, {}, {}

    def found(self, number, names, x, y, wait):
        self.pools[number] = [names, wait, ("state", number, 0, x, y, ()), "open", None]

    def post(self, state):
        pool = self.pools.get(state[1])
        if pool is None or pool[3] == "closed" or pool[3] == "closing" and pool[2][2] >= state[2]:
            return
        pool[2] = state
        self.close(pool)

    def close(self, pool):
        if pool[3] == "open":
            pool[3], pool[4] = "closing", self.now + pool[1]

    def leave(self, number):
        if number in self.pools:
            self.close(self.pools[number])

    def show(self, secret):
        self.board.setdefault(secret, self.now)

    def on(self, time):
        for self.now in range(self.now, time + 1):
            for number, pool in list(self.pools.items()):
                self.step(number, pool)

    def step(self, number, pool):
        names, _, state, status, end = pool
        if status == "closing" and end <= self.now:
            pool[3] = "closed"
            self.get(number, names[0], state[3])
            self.get(number, names[1], state[4])
        if pool[3] == "closed":
            for promise in list(state[5]):
                _, by, amount, lock, until = promise
                if any(digest("lock " + secret) == lock and shown < until for secret, shown in self.board.items()):
                    self.get(number, names[1 - by], amount)
                elif until <= self.now:
                    self.get(number, names[by], amount)
                else:
                    continue
                pool[2] = (*pool[2][:5], tuple(each for each in pool[2][5] if each != promise))
            if not pool[2][5]:
                del self.pools[number]

    def get(self, number, name, amount):
        self.got[number, name] = self.got.get((number, name), 0) + amount


class Many(AtCourt):

    def deeds(self, chance):
        """Some deeds, and steps of time, that most often can be done."""
        for _ in range(25):
            number = chance.randint(1, 4)
            x, y = chance.randint(0, 10), chance.randint(0, 10)
            amounts = [chance.randint(1, 4) for _ in range(chance.randint(0, 4))]
            promises = [(mark, chance.randint(0, 1), amount, chance.choice((OPEN, SHUT)), chance.randint(0, 25)) for mark, amount in enumerate(amounts, 1)]
            rest = 20 - sum(amounts)
            x = chance.randint(0, rest)
            yield chance.choice((
                ("post", sealed(state_of(number, chance.randint(1, 9), x, rest - x, *promises))), ("leave", number),
                ("show", chance.choice(("open", "shut", "other"))), ("on", chance.randint(0, 4)), ("on", chance.randint(0, 9)),
            ))

    def test_one_great_step_or_several_lesser_ones(self):
        ends = set()
        for seed in range(150):
            told = []
            deeds = list(self.deeds(random.Random(seed)))
            for lesser in (False, True):
                self.start(digest)
                model = Model()
                got = {}
                for at in range(1, 5):
                    names = (NAMES[at % 3], NAMES[(at + 1) % 3])
                    self.court.found(*names, 10, 10, KEYS, at + 1)
                    model.found(at, names, 10, 10, at + 1)
                for word, part in [*deeds, ("on", 40)]:
                    self.do(model, got, word, part, lesser)
                    for number, name in [*got, *model.got]:
                        self.assertEqual(got.get((number, name), 0), model.got.get((number, name), 0))
                self.assertEqual(self.ledger.pots(), {number: 20 for number in self.court.pools()})
                self.assertEqual(ledger_of(self.ledger.rows()), self.ledger)
                told.append((got, self.frees(), self.court.pools(), self.court.board()))
                ends.add(len(self.court.pools()))
            self.assertEqual(told[0], told[1])
        self.assertGreater(len(ends), 2)

    def do(self, model, got, word, part, lesser):
        steps = [self.court.now() + part] if word == "on" else [part]
        if word == "on" and lesser:
            steps = range(self.court.now(), self.court.now() + part + 1)
        for step in steps:
            rows = len(self.ledger)
            try:
                told = getattr(self.court, word)(step)
            except YardError:
                self.assertEqual(len(self.ledger), rows)
                continue
            getattr(model, word)(step[0] if word == "post" else step)
            shares = self.ledger.rows()[rows:]
            self.assertEqual([share[1][0][0] for share in shares], sorted({number for number, _, _ in told or []}))
            for number, name, amount in told or []:
                self.assertGreater(amount, 0)
                got[number, name] = got.get((number, name), 0) + amount
        self.assertEqual(self.court.now(), model.now)
        self.assertEqual(self.court.board(), model.board)
        self.assertEqual(self.court.pools(), {number: (*pool[0], *pool[1:]) for number, pool in model.pools.items()})
        self.is_whole()

    def is_whole(self):
        pools = self.court.pools()
        self.assertEqual(sorted(self.ledger.pots()), sorted(pools))
        for number, pool in pools.items():
            left = sum(promise[2] for promise in pool[3][5]) + (0 if pool[4] == "closed" else sum(pool[3][3:5]))
            self.assertEqual(self.ledger.pot(number), left)
        self.assertEqual(sum(self.frees()) + sum(self.ledger.pots().values()), 300)


if __name__ == "__main__":
    unittest.main()

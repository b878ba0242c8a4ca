"""[90], [91], [92], [4]: partners, their messages, and what they keep."""

import copy
import random
import unittest

from clearyard.errors import NoMove, NoSeal, NoState, NotNow, YardError
from clearyard.moves import moved
from clearyard.partners import Partner, partner_of
from clearyard.seals import is_sealed
from clearyard.states import state_text
from things import DIGEST, MOST, NOT_COUNTS, NOT_DIGESTS, NOT_NUMBERS, NOT_SECRETS, NOT_TIMES, ODD, Asked, Case, digest

KEYS = ("anns", "bobs")
OPEN, SHUT = digest("lock open"), digest("lock shut")
FIRST = ("state", 1, 0, 20, 30, ())


def good_of(key, told=digest):
    return lambda text, seal: seal == told(key + " " + text)


def partner(party, told=digest, x=20, y=30):
    return Partner(1, party, x, y, KEYS[party], good_of(KEYS[1 - party], told), told)


def pools_by(status="open", state=FIRST, end=None):
    return {1: ("ann", "bob", 5, state, status, end), 7: ("bob", "cid", 5, ("state", 7, 0, 1, 1, ()), "open", None)}


OTHERS = {7: ("bob", "cid", 5, ("state", 7, 0, 1, 1, ()), "open", None)}


def state_of(turn, x, y, *promises):
    return ("state", 1, turn, x, y, promises)


def seal(party, state, told=digest):
    return told(KEYS[party] + " " + state_text(state))


def offered(party, before, move, told=digest):
    """The offer of a move by a party, as it must be."""
    after = moved(before, party, move, told)
    return ("offer", after[2], move, seal(party, after, told))


def told_of(one):
    """All that a partner tells of itself."""
    return (one.state(), one.waiting(), one.sealed(), one.again(), one.knows(), one.told())


class Both(Case):

    def setUp(self):
        self.start()

    def start(self, told=digest, x=20, y=30):
        self.both = [partner(party, told, x, y) for party in (0, 1)]

    def stand(self):
        return [told_of(one) for one in self.both]

    def deal(self, *moves, now=0, board=None):
        """Offers these moves by turns: each is heard, and agreed by both."""
        for move in moves:
            party = self.both[0].state()[2] % 2
            message = self.both[party].offer(move, now)
            self.assertEqual(message, offered(party, self.both[party].state(), move))
            reply = self.both[1 - party].hear(message, pools_by(), board or {}, now)
            self.assertEqual(reply, ("agree", message[1], seal(1 - party, self.both[1 - party].state())))
            self.assertEqual(self.both[party].hear(reply, pools_by(), board or {}, now), "agreed")
            self.assertEqual(self.both[0].state(), self.both[1].state())
            self.assertEqual(self.both[0].sealed(), self.both[1].sealed())
            self.assertTrue(is_sealed(self.both[0].sealed(), KEYS, digest))
            self.assertEqual([one.waiting() for one in self.both], [None, None])

    def kept(self, refusal, fields, call, *parts, **named):
        before = repr(self.stand())
        self.refused(refusal, fields, call, *parts, **named)
        self.assertEqual(repr(self.stand()), before)

    def unheard(self, party, message, pools=None, board=None, now=0):
        """That nothing comes of a message."""
        parts = (message, pools_by() if pools is None else pools, board or {}, now)
        before = repr((self.stand(), parts))
        self.assertIsNone(self.both[party].hear(*parts), message)
        self.assertEqual(repr((self.stand(), parts)), before)


class Begin(Both):

    def test_at_first(self):
        for one in self.both:
            self.assertEqual(repr(one.state()), repr(FIRST))
            self.assertEqual((one.waiting(), one.sealed(), one.again(), one.knows()), (None, None, None, []))
        self.assertEqual(self.both[0].sure(pools_by(), {}, 0), 20)
        self.assertEqual(self.both[1].sure(pools_by(), {}, 0), 30)

    def test_by_name(self):
        one = Partner(digest=digest, good=good_of("k"), key="l", y=0, x=MOST, party=1, pool=10 ** 39)
        self.assertEqual(one.state(), ("state", 10 ** 39, 0, MOST, 0, ()))

    def test_no_state_of_what_no_court_begins_by(self):
        for key in ("anns", None):
            for pool in [*NOT_COUNTS, "ann"]:
                self.refused(NoState, {}, Partner, pool, 0, 20, 30, key, None, None)
            for party in [*NOT_NUMBERS, 2, -1, 10 ** 39]:
                self.refused(NoState, {}, Partner, 1, party, 20, 30, key, None, None)
            for stake in [*NOT_TIMES, MOST + 1, 10 ** 39]:
                self.refused(NoState, {}, Partner, 1, 0, stake, 30, key, None, None)
                self.refused(NoState, {}, Partner, 1, 0, 20, stake, key, None, None)
            self.refused(NoState, {}, Partner, 1, 0, 0, 0, key, None, None)
        for x, y in ((1, 0), (0, 1), (MOST, MOST)):
            self.assertEqual(Partner(1, 0, x, y, "a", None, None).state(), ("state", 1, 0, x, y, ()))

    def test_no_seal_of_a_key(self):
        for key in NOT_SECRETS:
            self.refused(NoSeal, {}, Partner, 1, 0, 20, 30, key, None, None)
        for key in ("a", "z" * 20):
            Partner(1, 0, 20, 30, key, None, None)

    def test_learn(self):
        one = self.both[0]
        for secret in ("b", "a", "b", "z" * 20):
            self.assertIsNone(one.learn(secret=secret))
        self.assertEqual(one.knows(), ["a", "b", "z" * 20])
        one.knows().clear()
        self.assertEqual(one.knows(), ["a", "b", "z" * 20])
        for secret in NOT_SECRETS:
            self.kept(NoSeal, {}, one.learn, secret)


class Offer(Both):

    def test_the_message(self):
        message = self.both[0].offer(("pay", 5), 3)
        after = state_of(1, 15, 35)
        self.assertEqual(repr(message), repr(("offer", 1, ("pay", 5), seal(0, after))))
        self.assertEqual(told_of(self.both[0])[:5], (FIRST, after, None, message, []))
        self.start()
        self.assertEqual(self.both[0].offer(now=3, move=("pay", 5)), message)

    def test_not_its_turn(self):
        for move in (("pay", 5), ("pass",), None, ("pay", 99)):
            self.kept(NotNow, {}, self.both[1].offer, move, 0)
        self.deal(("pass",))
        for move in (("pay", 5), ("pass",), None, ("pay", 99)):
            self.kept(NotNow, {}, self.both[0].offer, move, 0)
        self.both[1].offer(("pass",), 0)

    def test_one_is_waiting(self):
        self.both[0].offer(("pay", 5), 0)
        for move in (("pay", 5), ("pass",), None, ("pay", 99), ("late", 1)):
            self.kept(NotNow, {}, self.both[0].offer, move, 0)
            self.kept(NotNow, {}, self.both[1].offer, move, 0)

    def test_no_move(self):
        self.deal(("give", 1, 5, OPEN, 9), ("pass",))
        for move in [*ODD, 0, ("pay", 16), ("pay", True), ["pay", 5], ("pay", 5, 5), ("give", 1, 5, OPEN, 9), ("give", 1, 5, OPEN, 0), ("claim", 1, "open"),
                     ("back", 1), ("late", 2), ("claim", 2, "open"), ("pass", 1), ("give", 2, 16, OPEN, 0), ("give", 2, 1, -1, 0)]:
            self.kept(NoMove, {}, self.both[0].offer, move, 0)

    def test_a_give_with_too_few_ticks(self):
        for now in (0, 1, 7):
            for until in (0, now, now + 1, now + 3):
                self.kept(NotNow, {}, self.both[0].offer, ("give", 1, 5, OPEN, until), now)
            for until in (now + 4, now + 5, 10 ** 39):
                self.start()
                self.both[0].offer(("give", 1, 5, OPEN, until), now)

    def test_a_late_ahead_of_until(self):
        self.deal(("give", 1, 5, OPEN, 9), ("pass",))
        for now in (0, 5, 8):
            self.kept(NotNow, {}, self.both[0].offer, ("late", 1), now)
        twin = self.both[0].twin()
        self.assertEqual(twin.offer(("late", 1), 9), offered(0, twin.state(), ("late", 1)))
        self.both[0].offer(("late", 1), 10)

    def test_claim_and_back_at_any_time(self):
        self.deal(("give", 1, 5, OPEN, 9))
        for now in (0, 8, 9, 99):
            for move in (("claim", 1, "open"), ("back", 1), ("pay", 1), ("pass",)):
                twin = self.both[1].twin()
                self.assertEqual(twin.offer(move, now), offered(1, twin.state(), move))
                self.assertEqual(twin.knows(), [])

    def test_errors_of_the_digest(self):
        asked = Asked()
        self.start(asked)
        self.assertEqual(self.spoiled_at_each(asked, self.stand, self.both[0].offer, ("give", 1, 5, OPEN, 9), 0)[0], 1)
        self.assertEqual(asked.texts, ["anns state 1 1 15 30 / 1 0 5 " + str(OPEN) + " 9"])
        self.both[1].hear(self.both[0].again(), pools_by(), {}, 0)
        many, message = self.spoiled_at_each(asked, self.stand, self.both[1].offer, ("claim", 1, "open"), 0)
        self.assertEqual((many, message), (2, offered(1, state_of(1, 15, 30, (1, 0, 5, OPEN, 9)), ("claim", 1, "open"))))


class Hear(Both):

    def test_an_offer_then_an_agree(self):
        one, other = self.both
        message = one.offer(("pay", 5), 0)
        reply = other.hear(now=0, board={}, pools=pools_by(), message=message)
        after = state_of(1, 15, 35)
        self.assertEqual(repr(reply), repr(("agree", 1, seal(1, after))))
        self.assertEqual(told_of(other)[:5], (after, None, (after, seal(0, after), seal(1, after)), None, []))
        self.assertEqual(one.state(), FIRST)
        self.assertEqual(repr(one.hear(reply, pools_by(), {}, 0)), repr("agreed"))
        self.assertEqual(told_of(one)[:5], (after, None, (after, seal(0, after), seal(1, after)), None, []))

    def test_many_turns_of_all_moves(self):
        self.deal(("pay", 5), ("give", 1, 10, OPEN, 9), ("give", 2, 3, SHUT, 9), ("back", 2), ("claim", 1, "open"), ("give", 3, 1, SHUT, 4))
        self.assertEqual(self.both[0].state(), state_of(6, 25, 24, (3, 1, 1, SHUT, 4)))
        self.assertEqual([one.knows() for one in self.both], [[], ["open"]])
        self.deal(("pass",), ("late", 3), now=4)
        self.assertEqual(self.both[0].state(), state_of(8, 25, 25))
        self.deal(("pay", 25), ("pay", 50), ("pay", 50), now=99)
        self.assertEqual(self.both[0].state(), state_of(11, 0, 50))

    def test_offers_once_more(self):
        one, other = self.both
        message = one.offer(("pay", 5), 0)
        reply = other.hear(message, pools_by(), {}, 0)
        for pools in (pools_by(), pools_by("closing", FIRST, 9), pools_by("closed", FIRST, 9), {}, OTHERS):
            before = self.stand()
            self.assertEqual(repr(other.hear(copy.deepcopy(one.again()), pools, {"open": 3}, 99)), repr(reply))
            self.assertEqual(self.stand(), before)
        self.assertEqual(one.hear(reply, {}, {}, 99), "agreed")
        self.assertEqual(other.hear(message, {}, {}, 0), reply)
        self.unheard(0, reply)
        self.unheard(0, message)
        # Behind the next one's offer it is still the one by which the agreed state came.
        next_one = other.offer(("pay", 1), 0)
        self.assertEqual(other.hear(message, {}, {}, 0), reply)
        self.assertEqual(other.again(), next_one)
        other.hear(one.hear(next_one, pools_by(), {}, 0), pools_by(), {}, 0)
        for pools in (pools_by(), {}):
            self.unheard(1, message, pools)
            self.unheard(1, next_one, pools)
            self.assertEqual(one.hear(next_one, pools, {}, 0), ("agree", 2, seal(0, one.state())))

    def test_an_offer_once_more_changed_in_any_part(self):
        message = self.both[0].offer(("pay", 1), 0)
        self.both[1].hear(message, pools_by(), {}, 0)
        turn, move, number = message[1:]
        for spoiled in (
            ("offer", True, move, number), ("offer", turn, ("pay", True), number), ("offer", turn, ["pay", 1], number), list(message), message[:3],
            ("offer", turn, move, number + 1), ("offer", turn, move, str(number)), ("offer", turn, move, None), ("offer", 2, move, number), (*message, 0),
            ("offer", turn, ("pay", 2), number), ("offer", turn, ("pay", 1, 1), number), ("agree", turn, number), ("agree", turn, move, number), (message,),
        ):
            self.unheard(1, spoiled)
        self.assertEqual(self.both[1].hear(message, {}, {}, 0)[0], "agree")

    def test_the_pool_is_open(self):
        message = self.both[0].offer(("pay", 5), 0)
        for pools in (
            pools_by("closing", FIRST, 9), pools_by("closed", FIRST, 9), {}, OTHERS, {2: pools_by()[1]}, pools_by("closing", state_of(1, 15, 35), 9),
        ):
            self.unheard(1, message, pools)
        self.assertEqual(self.both[1].hear(message, {1: pools_by()[1]}, {}, 0)[0], "agree")

    def test_an_agree_whatever_the_pool_is(self):
        one, other = self.both
        reply = other.hear(one.offer(("pay", 5), 0), pools_by(), {}, 0)
        for pools in (pools_by(), pools_by("closing", FIRST, 9), pools_by("closed", FIRST, 9), {}, OTHERS):
            self.assertEqual(one.twin().hear(reply, pools, {}, 10 ** 39), "agreed")

    def test_no_other_offer(self):
        after = state_of(1, 15, 35)
        right = ("offer", 1, ("pay", 5), seal(0, after))
        for spoiled in [
            *ODD, 0, 1, list(right), right[:3], (*right, 0), (right,), right[1:], ("Offer", *right[1:]), (["offer"], *right[1:]), (None, *right[1:]),
            ("offer", 1, ["pay", 5], right[3]), ("offer", 1, ("pay", 6), right[3]), ("offer", 1, ("pay", 21), right[3]), ("offer", 1, None, right[3]),
            ("offer", 1, ("pass",), right[3]), ("offer", 1, ("pay", 5), seal(1, after)), ("offer", 1, ("pay", 5), seal(0, FIRST)),
            ("offer", 1, ("pay", 5), seal(0, state_of(2, 15, 35))), ("offer", 1, ("pay", 5), right[3] + 1), ("offer", 1, ("pay", 5), -right[3]),
            ("agree", *right[1:]), ("agree", 1, right[3]), ("agree", 1, seal(0, FIRST)), ("agree", 0, seal(0, FIRST)), "agreed", "offer",
        ]:
            self.unheard(1, spoiled)
            self.unheard(0, spoiled)
        for turn in [*NOT_NUMBERS, 0, 2, -1, 3, "1", 10 ** 39]:
            self.unheard(1, ("offer", turn, ("pay", 5), right[3]))
        for number in NOT_DIGESTS:
            self.unheard(1, ("offer", 1, ("pay", 5), number))
        # By the hearer's own move, and its own seal, nothing is agreed.
        self.unheard(0, right)
        self.unheard(0, self.both[0].offer(("pay", 5), 0))
        self.assertEqual(self.both[1].hear(right, pools_by(), {}, 0)[0], "agree")

    def test_elder_and_later_ones(self):
        one, other = self.both
        first = one.offer(("pay", 5), 0)
        reply = other.hear(first, pools_by(), {}, 0)
        one.hear(reply, pools_by(), {}, 0)
        second = other.offer(("pay", 3), 0)
        agree = one.hear(second, pools_by(), {}, 0)
        other.hear(agree, pools_by(), {}, 0)
        third = one.offer(("pay", 1), 0)
        self.unheard(1, first)
        self.unheard(0, second[:1] + (4,) + second[2:])
        self.unheard(0, reply)
        self.unheard(1, agree)
        self.unheard(0, ("agree", 3, agree[2]))
        # Of the elder offer by which the agreed state came it tells once more, though one of its own is waiting.
        self.assertEqual(one.hear(second, pools_by(), {}, 0), agree)
        self.assertEqual(other.hear(third, pools_by(), {}, 0)[:2], ("agree", 3))
        ahead = state_of(4, 19, 31)
        self.unheard(0, ("offer", 4, ("pay", 4), seal(1, ahead)))

    def test_no_other_agree(self):
        one = self.both[0]
        one.offer(("pay", 5), 0)
        after = state_of(1, 15, 35)
        right = ("agree", 1, seal(1, after))
        for spoiled in [
            *ODD, 0, 1, list(right), right[:2], (*right, 0), (right,), right[1:], ("Agree", *right[1:]), ("agreed", *right[1:]), (["agree"], *right[1:]),
            ("agree", 1, seal(0, after)), ("agree", 1, seal(1, FIRST)), ("agree", 1, right[2] + 1), ("offer", *right[1:]), ("agree", 1, ("pay", 5), right[2]),
        ]:
            self.unheard(0, spoiled)
        for turn in [*NOT_NUMBERS, 0, 2, -1, "1"]:
            self.unheard(0, ("agree", turn, right[2]))
        for number in NOT_DIGESTS:
            self.unheard(0, ("agree", 1, number))
        self.unheard(1, right)
        self.assertEqual(one.hear(right, pools_by(), {}, 0), "agreed")
        self.unheard(0, right)

    def test_seals_that_are_truths(self):
        for number, truth in ((0, False), (1, True)):
            self.start(lambda text: number)
            message = self.both[0].offer(("pay", 5), 0)
            self.assertEqual(message[3], number)
            self.unheard(1, (*message[:3], truth))
            reply = self.both[1].hear(message, pools_by(), {}, 0)
            self.unheard(1, (*message[:3], truth))
            self.unheard(0, (*reply[:2], truth))
            self.assertEqual(self.both[0].hear(reply, pools_by(), {}, 0), "agreed")

    def test_seals_beyond_a_digest(self):
        """Whatever good says of it, such a seal is none."""
        one = Partner(1, 1, 20, 30, "bobs", lambda text, seal: True, digest)
        for number in NOT_DIGESTS:
            self.assertIsNone(one.hear(("offer", 1, ("pay", 5), number), pools_by(), {}, 0))
        self.assertEqual(one.hear(("offer", 1, ("pay", 5), DIGEST), pools_by(), {}, 0)[0], "agree")
        other = Partner(1, 0, 20, 30, "anns", lambda text, seal: True, digest)
        other.offer(("pay", 5), 0)
        for number in NOT_DIGESTS:
            self.assertIsNone(other.hear(("agree", 1, number), pools_by(), {}, 0))
        self.assertEqual(other.hear(("agree", 1, 0), pools_by(), {}, 0), "agreed")

    def test_what_good_is_asked(self):
        told = []
        one = Partner(1, 1, 20, 30, "bobs", lambda text, seal: told.append((text, seal)) or seal == 5, digest)
        self.assertIsNone(one.hear(("offer", 1, ("pay", 5), 6), pools_by(), {}, 0))
        self.assertEqual(one.hear(("offer", 1, ("pay", 5), 5), pools_by(), {}, 0)[0], "agree")
        self.assertEqual(told, [("state 1 1 15 35", 6), ("state 1 1 15 35", 5)])
        one.offer(("pay", 1), 0)
        self.assertIsNone(one.hear(("agree", 2, 6), pools_by(), {}, 0))
        self.assertEqual(one.hear(("agree", 2, 5), pools_by(), {}, 0), "agreed")
        self.assertEqual(told[2:], [("state 1 2 16 34", 6), ("state 1 2 16 34", 5)])


class Takes(Both):

    def takes(self, party, move, right, now, board=None):
        """Whether the other's move is agreed to, from the state on in which both are."""
        message = offered(1 - party, self.both[party].state(), move)
        twin = self.both[party].twin()
        before = told_of(twin)
        told = twin.hear(message, pools_by(), board or {}, now)
        self.assertEqual(told is not None, right, (move, now, board))
        if not right:
            self.assertEqual(told_of(twin), before)
        return twin

    def test_a_give(self):
        for now in (0, 3):
            for until in range(now + 8):
                self.takes(1, ("give", 1, 5, OPEN, until), until >= now + 4, now)
        self.takes(1, ("give", 1, 5, OPEN, 10 ** 39), True, 5)

    def test_a_claim(self):
        self.deal(("give", 1, 5, OPEN, 9))
        for board in ({}, {"shut": 0}, {"open": 9}, {"open": 10}, {"open": 10 ** 39}):
            for now in range(14):
                twin = self.takes(0, ("claim", 1, "open"), now <= 7, now, board)
                self.assertEqual(twin.knows(), ["open"] if now <= 7 else [])
        for board in ({"open": 8}, {"open": 0}, {"shut": 0, "open": 3}):
            for now in (0, 7, 8, 9, 10, 99):
                twin = self.takes(0, ("claim", 1, "open"), True, now, board)
                self.assertEqual(twin.knows(), ["open"] if now <= 7 else [])

    def test_a_claim_by_another_secret_of_the_lock_on_the_board(self):
        def alike(text):
            return 7 if text in ("lock a", "lock b") else digest(text)
        self.start(alike)
        message = self.both[0].offer(("give", 1, 5, 7, 9), 0)
        self.both[0].hear(self.both[1].hear(message, pools_by(), {}, 0), pools_by(), {}, 0)
        claim = offered(1, self.both[0].state(), ("claim", 1, "b"), alike)
        self.assertIsNone(self.both[0].twin().hear(claim, pools_by(), {"a": 9, "c": 0}, 8))
        self.assertEqual(self.both[0].twin().hear(claim, pools_by(), {"a": 8}, 8)[0], "agree")

    def test_a_late(self):
        self.deal(("give", 1, 5, OPEN, 9), ("pass",))
        for board in ({}, {"shut": 0}, {"open": 9}, {"open": 10}):
            for now in range(14):
                self.takes(1, ("late", 1), now >= 9, now, board)
        for board in ({"open": 8}, {"open": 0, "shut": 9}):
            for now in (0, 8, 9, 10, 99):
                self.takes(1, ("late", 1), False, now, board)

    def test_a_late_of_a_secret_that_only_the_hearer_knows(self):
        self.deal(("give", 1, 5, OPEN, 9), ("pass",))
        self.both[1].learn("open")
        self.takes(1, ("late", 1), False, 8)
        self.takes(1, ("late", 1), True, 9)

    def test_pay_back_and_pass(self):
        self.deal(("give", 1, 5, OPEN, 9))
        for now in (0, 8, 9, 99):
            for board in ({}, {"open": 3}):
                for move in (("pay", 1), ("pay", 30), ("back", 1), ("pass",)):
                    self.takes(0, move, True, now, board)

    def test_of_the_right_promise(self):
        self.deal(("give", 1, 5, OPEN, 9), ("give", 2, 4, OPEN, 30), ("give", 3, 3, SHUT, 60))
        # By party 1: claims of 1 and 3, a late of 2.
        for now in (0, 7, 8, 30, 58, 59):
            self.takes(0, ("claim", 1, "open"), now <= 7, now)
            self.takes(0, ("claim", 3, "shut"), now <= 58, now)
            self.takes(0, ("late", 2), now >= 30, now)
        self.takes(0, ("claim", 1, "open"), True, 8, {"open": 8})
        self.takes(0, ("claim", 1, "open"), False, 10, {"open": 9})
        self.takes(0, ("late", 2), False, 30, {"open": 9})
        self.takes(0, ("late", 2), True, 30, {"shut": 9, "open": 30})


class Spoiled(Both):

    def test_errors_of_the_digest_and_of_good(self):
        asked = Asked()
        self.start(asked)
        at_each = self.spoiled_at_each
        one, other = self.both
        give = one.offer(("give", 1, 5, OPEN, 9), 0)
        many, reply = at_each(asked, self.stand, other.hear, give, pools_by(), {}, 0)
        self.assertEqual((many, reply), (2, ("agree", 1, seal(1, other.state()))))
        self.assertEqual(at_each(asked, self.stand, one.hear, reply, pools_by(), {}, 0), (1, "agreed"))
        claim = other.offer(("claim", 1, "open"), 0)
        many, reply = at_each(asked, self.stand, one.hear, claim, pools_by(), {"a": 0, "open": 3}, 8)
        self.assertEqual((many, reply), (1 + 2 + 2, ("agree", 2, seal(0, one.state()))))
        self.assertEqual(at_each(asked, self.stand, other.hear, reply, pools_by(), {}, 0), (1, "agreed"))

    def test_errors_of_good_alone(self):
        asked = Asked(lambda text: True)
        for party in (0, 1):
            one = Partner(1, party, 20, 30, KEYS[party], lambda text, seal: asked(text), digest)
            if party == 0:
                one.offer(("pay", 5), 0)
            message = ("agree", 1, 5) if party == 0 else ("offer", 1, ("pay", 5), 5)
            many, told = self.spoiled_at_each(asked, lambda: told_of(one), one.hear, message, pools_by(), {}, 0)
            self.assertEqual(many, 1)
            self.assertEqual(told, "agreed" if party == 0 else ("agree", 1, seal(1, one.state())))

    def test_what_only_tells(self):
        asked = Asked()
        self.start(asked)
        self.both[0].offer(("give", 1, 5, OPEN, 9), 0)
        self.both[1].hear(self.both[0].again(), pools_by(), {}, 0)
        self.both[1].learn("open")
        self.both[1].learn("shut")
        for call, told in (
            (lambda: self.both[1].sure(pools_by(), {"a": 0}, 5), 35), (lambda: self.both[0].sure(pools_by(), {"a": 0}, 5), 15),
            (lambda: self.both[1].answer(pools_by(), {"a": 0}, 7), [("show", "open")]),
        ):
            many, got = self.spoiled_at_each(asked, self.stand, call)
            self.assertEqual(got, told)
            self.assertGreater(many, 0)

    def test_errors_of_partner_of_and_of_twin(self):
        asked = Asked()
        self.start(asked)
        one, other = self.both
        one.hear(other.hear(one.offer(("give", 1, 5, OPEN, 9), 0), pools_by(), {}, 0), pools_by(), {}, 0)
        other.offer(("claim", 1, "open"), 0)
        for each, key in zip(self.both, reversed(KEYS)):
            many, again = self.spoiled_at_each(asked, self.stand, partner_of, each.told(), good_of(key, asked), asked)
            self.assertEqual(told_of(again), told_of(each))
            self.assertGreater(many, 1)
        asked.left = 0
        self.assertEqual(told_of(one.twin()), told_of(one))
        self.assertEqual(told_of(other.twin()), told_of(other))


class Sure(Both):

    def sures(self, pools, board, now):
        return [one.sure(pools, board, now) for one in self.both]

    def test_by_name(self):
        self.assertEqual(self.both[0].sure(now=0, board={}, pools=pools_by()), 20)

    def test_none_any_more(self):
        self.deal(("give", 1, 5, OPEN, 9))
        for pools in ({}, OTHERS):
            self.assertEqual(self.sures(pools, {"open": 0}, 0), [0, 0])

    def test_a_promise_by_time_and_board(self):
        self.deal(("give", 1, 5, OPEN, 9))
        for status in ("open", "closing"):
            pools = pools_by(status, FIRST, None if status == "open" else 4)
            for now in range(14):
                self.assertEqual(self.sures(pools, {}, now), [15 if now < 9 else 20, 30])
                self.assertEqual(self.sures(pools, {"open": 9, "shut": 0}, now), [15 if now < 9 else 20, 30])
                for board in ({"open": 8}, {"shut": 9, "open": 0}):
                    self.assertEqual(self.sures(pools, board, now), [15, 35])

    def test_a_promise_of_which_it_knows_a_secret(self):
        self.deal(("give", 1, 5, OPEN, 9))
        for one in self.both:
            one.learn("open")
            one.learn("shut")
        for now in range(14):
            self.assertEqual(self.sures(pools_by(), {}, now), [15 if now < 9 else 20, 35 if now <= 7 else 30])
            self.assertEqual(self.sures(pools_by(), {"open": 9}, now), [15 if now < 9 else 20, 35 if now <= 7 else 30])
            self.assertEqual(self.sures(pools_by(), {"open": 8}, now), [15, 35])

    def test_the_lesser_of_the_agreed_and_the_waiting_one(self):
        self.both[0].offer(("pay", 5), 0)
        self.assertEqual(self.sures(pools_by(), {}, 0), [15, 30])
        self.start()
        self.deal(("give", 1, 5, OPEN, 9))
        self.both[1].offer(("claim", 1, "open"), 0)
        self.assertEqual(self.sures(pools_by(), {}, 0), [15, 30])
        self.both[1].learn("open")
        self.assertEqual(self.sures(pools_by(), {}, 0), [15, 35])
        self.assertEqual(self.sures(pools_by(), {}, 8), [15, 30])
        self.assertEqual(self.sures(pools_by(), {"open": 8}, 8), [15, 35])
        self.start()
        self.deal(("give", 1, 5, OPEN, 9))
        self.both[1].offer(("back", 1), 0)
        self.assertEqual(self.sures(pools_by(), {"open": 8}, 8), [15, 30])
        self.assertEqual(self.sures(pools_by("closing", FIRST, 8), {"open": 8}, 8), [15, 30])

    def test_where_the_pool_is_closed(self):
        """What it has there has gone; of promises those of the state that stands alone count."""
        self.deal(("give", 1, 5, OPEN, 9))
        self.both[1].offer(("give", 2, 3, SHUT, 30), 0)
        self.assertEqual(self.sures(pools_by("closed", FIRST, 5), {"open": 3}, 5), [0, 0])
        agreed = self.both[0].state()
        for now in range(6, 14):
            self.assertEqual(self.sures(pools_by("closed", agreed, 5), {}, now), [0 if now < 9 else 5, 0])
            self.assertEqual(self.sures(pools_by("closed", agreed, 5), {"open": 3}, now), [0, 5])
        waiting = self.both[1].waiting()
        self.both[1].learn("open")
        self.assertEqual(self.sures(pools_by("closed", waiting, 5), {}, 7), [0, 5])
        self.assertEqual(self.sures(pools_by("closed", waiting, 5), {}, 8), [0, 0])
        self.assertEqual(self.sures(pools_by("closed", waiting, 5), {"shut": 8}, 9), [5 + 3, 0])
        self.assertEqual(self.sures(pools_by("closed", waiting, 5), {}, 30), [5, 3])
        other = state_of(9, 1, 2, (4, 0, 6, OPEN, 40), (5, 1, 7, OPEN, 40), (6, 1, 8, SHUT, 12))
        self.assertEqual(self.sures(pools_by("closed", other, 5), {"open": 3}, 7), [7, 6])
        self.assertEqual(self.sures(pools_by("closed", other, 5), {}, 12), [0, 6 + 8])

    def test_several_promises(self):
        self.deal(("give", 1, 5, OPEN, 9), ("give", 2, 4, OPEN, 20), ("give", 3, 3, SHUT, 9), ("give", 4, 2, SHUT, 30))
        for board, now, sures in (
            ({}, 0, [12, 24]), ({}, 9, [20, 24]), ({}, 30, [20, 30]), ({"open": 8}, 8, [16, 29]), ({"open": 9}, 9, [24, 24]), ({"shut": 8}, 9, [19, 27]),
            ({"shut": 8, "open": 8}, 99, [18, 32]), ({"shut": 30, "open": 20}, 99, [20, 30]),
        ):
            self.assertEqual(self.sures(pools_by(), board, now), sures)


class Answer(Both):

    def answers(self, pools, board, now):
        return [one.answer(pools, board, now) for one in self.both]

    def test_by_name(self):
        self.assertEqual(self.both[0].answer(now=0, board={}, pools=pools_by()), [])

    def test_a_post(self):
        one, other = self.both
        self.deal(("pay", 1), ("pay", 2), ("pay", 3))
        one.hear(other.offer(("pay", 4), 0), pools_by(), {}, 0)
        for at, stands in enumerate([FIRST, state_of(1, 19, 31), state_of(2, 21, 29), state_of(3, 18, 32), state_of(4, 22, 28), state_of(5, 1, 49)]):
            for status, end in (("open", None), ("closed", 5), ("closed", 99)):
                self.assertEqual(self.answers(pools_by(status, stands, end), {}, 9), [[], []])
            for end in (5, 99):
                posts = [[("post", each.sealed())] if each.state()[2] > at else [] for each in self.both]
                self.assertEqual(self.answers(pools_by("closing", stands, end), {}, 9), posts)
        self.assertEqual([each.state()[2] for each in self.both], [4, 3])
        self.assertEqual(self.answers({}, {}, 9), [[], []])
        self.assertEqual(self.answers(OTHERS, {}, 9), [[], []])

    def test_no_post_of_the_first_state(self):
        self.assertEqual(self.answers(pools_by("closing", FIRST, 5), {}, 0), [[], []])
        self.both[0].offer(("pay", 5), 0)
        self.assertEqual(self.answers(pools_by("closing", FIRST, 5), {}, 0), [[], []])

    def test_shows_by_time(self):
        self.deal(("give", 1, 5, OPEN, 9))
        for one in self.both:
            for secret in ("shut", "open", "other"):
                one.learn(secret)
        for pools in (pools_by(), pools_by("closing", self.both[0].state(), 5), pools_by("closed", self.both[0].state(), 5)):
            for now in range(12):
                self.assertEqual(self.answers(pools, {}, now), [[], [("show", "open")] if now in (7, 8) else []])
                self.assertEqual(self.answers(pools, {"shut": 0}, now), [[], [("show", "open")] if now in (7, 8) else []])
                self.assertEqual(self.answers(pools, {"open": 99}, now), [[], []])

    def test_of_the_agreed_the_waiting_and_the_one_that_stands(self):
        def alike(text):
            return {"lock a": 7, "lock b": 8, "lock c": 9, "lock d": 7, "lock e": 6}.get(text, digest(text))
        self.start(alike)
        one, other = self.both
        one.hear(other.hear(one.offer(("give", 1, 5, 7, 9), 0), pools_by(), {}, 0), pools_by(), {}, 0)
        for secret in "edcba":
            other.learn(secret)
        stands = state_of(9, 1, 2, (4, 0, 6, 8, 10), (5, 1, 7, 9, 10), (6, 0, 8, 9, 20))
        for status in ("open", "closing", "closed"):
            for now, shows in ((6, ""), (7, "ad"), (8, "abd"), (9, "b"), (10, ""), (17, ""), (18, "c"), (19, "c"), (20, "")):
                self.assertEqual(other.answer(pools_by(status, stands, 3), {}, now), [("show", secret) for secret in shows])
        self.assertEqual(other.answer(pools_by("open", stands), {"b": 99, "a": 0}, 8), [("show", "d")])
        self.assertEqual(other.answer(pools_by("closing", FIRST, 3), {}, 8), [("post", other.sealed()), ("show", "a"), ("show", "d")])
        self.assertEqual(other.answer(pools_by("closing", FIRST, 3), {}, 6), [("post", other.sealed())])
        # The waiting one's: a promise to it can stand in the agreed one, too, alone; one that it gives is none to it.
        other.offer(("claim", 1, "a"), 0)
        self.assertEqual(other.answer(pools_by(), {}, 8), [("show", "a"), ("show", "d")])
        self.assertEqual(one.hear(other.again(), pools_by(), {}, 0)[0], "agree")
        self.assertEqual([one.knows(), one.answer(pools_by("open", stands), {}, 8)], [["a"], []])

    def test_secrets_rising(self):
        def alike(text):
            return 7 if text.startswith("lock") else digest(text)
        self.start(alike)
        one, other = self.both
        other.hear(one.offer(("give", 1, 5, 7, 9), 0), pools_by(), {}, 0)
        for secret in ("b", "a", "ab", "c"):
            other.learn(secret)
        self.assertEqual(other.answer(pools_by(), {"b": 3}, 8), [("show", "a"), ("show", "ab"), ("show", "c")])


class Told(Both):

    def again(self, one):
        """That a partner of what one tells stands alike, and goes on alike."""
        party = self.both.index(one)
        good = good_of(KEYS[1 - party])
        others = [partner_of(one.told(), good, digest), partner_of(digest=digest, good=good, told=one.told()), one.twin()]
        for other in others:
            self.assertEqual(repr(told_of(other)), repr(told_of(one)))
            for move in (("pay", 1), ("pass",), ("claim", 1, "open"), ("give", 9, 1, OPEN, 50)):
                self.assertEqual(self.tried(other.twin().offer, move, 3), self.tried(one.twin().offer, move, 3))
                if one.state()[2] % 2 != party:
                    try:
                        message = offered(1 - party, one.state(), move)
                    except NoMove:
                        continue
                    hears = [each.twin().hear(message, pools_by(), {}, 3) for each in (one, other)]
                    self.assertEqual(*hears)
        return others

    def tried(self, call, *parts):
        try:
            return call(*parts)
        except YardError as refusal:
            return refusal.__class__

    def test_there_and_back(self):
        self.assertEqual(self.both[0].told().__class__, tuple)
        for each in self.both:
            self.again(each)
        self.both[0].learn("b")
        self.both[0].learn("a")
        self.again(self.both[0])
        for move in (("pay", 5), ("give", 1, 4, OPEN, 9), ("pass",), ("pay", 1), ("claim", 1, "open"), ("give", 2, 3, SHUT, 4), ("pay", 1), ("late", 2)):
            party = self.both[0].state()[2] % 2
            one, other = self.both[party], self.both[1 - party]
            message = one.offer(move, 4 if move[0] == "late" else 0)
            self.again(one)
            reply = other.hear(message, pools_by(), {}, 4 if move[0] == "late" else 0)
            for again in self.again(other):
                self.assertEqual(repr(again.hear(message, {}, {}, 0)), repr(reply))
            for again in self.again(one):
                self.assertEqual(again.hear(reply, {}, {}, 0), "agreed")
            one.hear(reply, {}, {}, 0)
            for again in [one, *self.again(one)]:
                for spoiled in (message, ("offer", message[1], None, seal(1 - party, one.state())), ("offer", message[1], move, seal(1 - party, one.state()))):
                    self.assertIsNone(again.hear(spoiled, pools_by(), {}, 0))

    def test_a_twin_goes_on_by_itself(self):
        one = self.both[0]
        one.learn("a")
        twin = one.twin()
        twin.learn("b")
        twin.offer(("pay", 5), 0)
        self.assertEqual((one.knows(), one.waiting(), one.again()), (["a"], None, None))
        one.learn("c")
        self.assertEqual(twin.knows(), ["a", "b"])
        again = partner_of(one.told(), good_of("bobs"), digest)
        again.learn("d")
        again.offer(("pay", 6), 0)
        self.assertEqual((one.knows(), one.waiting()), (["a", "c"], None))

    def some(self):
        """Partners that stand in all ways."""
        self.start()
        self.both[0].learn("a")
        self.both[0].learn("b")
        yield from self.both
        self.both[0].offer(("give", 1, 4, OPEN, 4), 0)
        yield self.both[0]
        self.both[1].hear(self.both[0].again(), pools_by(), {}, 0)
        yield self.both[1]
        self.both[1].offer(("claim", 1, "open"), 0)
        yield self.both[1]
        self.both[0].hear(("agree", 1, seal(1, self.both[1].state())), {}, {}, 0)
        yield self.both[0]
        self.both[0].hear(self.both[1].again(), pools_by(), {}, 0)
        yield self.both[0]

    def test_no_other(self):
        """Any part exchanged is refused, or makes a partner that tells just this."""
        made = refused = 0
        for one in self.some():
            party = self.both.index(one)
            told = one.told()
            for spoiled in all_exchanged(told):
                try:
                    again = partner_of(spoiled, good_of(KEYS[1 - party]), digest)
                except NoState:
                    refused += 1
                    continue
                made += 1
                self.assertEqual(repr(again.told()), repr(spoiled))
                again.twin()
        self.assertGreater(refused, 1000)
        self.assertGreater(refused, 20 * made)

    def test_of_other_forms(self):
        for one in self.some():
            told = one.told()
            for thing in [*ODD, 0, 1, list(told), told[:-1], told[1:], (*told, None), (*told, ()), (told,), told[::-1], told * 2, ("partner",)]:
                self.refused(NoState, {}, partner_of, thing, lambda text, seal: True, digest)

    def test_with_wrong_seals(self):
        for one in self.some():
            party = self.both.index(one)
            if one.sealed() is not None:
                self.refused(NoState, {}, partner_of, one.told(), good_of("cids"), digest)
                self.refused(NoState, {}, partner_of, one.told(), good_of(KEYS[party]), digest)
                self.refused(NoState, {}, partner_of, one.told(), good_of(KEYS[1 - party]), lambda text: 5)
                self.refused(NoState, {}, partner_of, one.told(), lambda text, seal: False, digest)

    def test_what_no_partner_tells(self):
        good = good_of("bobs")
        told = self.both[0].told()
        self.assertEqual(told, ("partner", 1, 0, 20, 30, "anns", None, None, None, ()))
        for at, part in (
            (8, ("give", 1, 5, OPEN, 3)), (8, ("pay", 21)), (8, ("late", 1)), (8, ("claim", 1, "a")), (8, ()), (8, "pass"), (8, ["pass"]), (2, True), (2, False),
            (7, ("pass",)), (9, ("b", "a")), (9, ("a", "a")), (9, ["a"]), (9, ("A",)), (9, (1,)), (9, ("a" * 21,)), (9, None), (3, True), (5, "Anns"),
            (6, (FIRST, seal(0, FIRST), seal(1, FIRST))),
        ):
            self.refused(NoState, {}, partner_of, (*told[:at], part, *told[at + 1:]), good, digest)
        for at, part in ((8, ("give", 1, 5, OPEN, 4)), (8, ("pay", 20)), (8, ("pass",)), (9, ("a", "b", "z" * 20)), (5, "cids"), (1, 9), (3, 0), (4, MOST)):
            spoiled = (*told[:at], part, *told[at + 1:])
            self.assertEqual(partner_of(spoiled, good, digest).told(), spoiled)
        self.refused(NoState, {}, partner_of, ("partner", 1, 1, 20, 30, "bobs", None, None, ("pass",), ()), good, digest)
        # A state by its own move isn't kept with the move; one by the other's is.
        self.deal(("pay", 5))
        for one, other_move in zip(self.both, (("pay", 5), None)):
            told = one.told()
            for move in (other_move, ("pay",), ["pay", 5], ("pay", True), 0, ()):
                self.refused(NoState, {}, partner_of, (*told[:7], move, *told[8:]), lambda text, seal: True, digest)
        # Of another pool, or with another worth, it can't have come from the first state.
        told = self.both[1].told()
        for state in (("state", 2, 1, 15, 35, ()), state_of(1, 15, 36), state_of(1, 15, 34), state_of(0, 20, 30), state_of(2, 15, 35)):
            for each, key in zip(self.both, reversed(KEYS)):
                for came in (None, ("pay", 5), ("pass",)):
                    spoiled = (*each.told()[:6], (state, seal(0, state), seal(1, state)), came, *told[8:])
                    if state[2] != 2 or (came is None) != (key == "anns"):
                        self.refused(NoState, {}, partner_of, spoiled, good_of(key), digest)


def all_exchanged(thing):
    """All that come of exchanging one part, at any depth, for another thing."""
    if thing.__class__ is tuple:
        for at, part in enumerate(thing):
            for other in all_exchanged(part):
                yield (*thing[:at], other, *thing[at + 1:])
            yield (*thing[:at], *thing[at + 1:])
            yield (*thing[:at], part, part, *thing[at + 1:])
        yield list(thing)
    if thing.__class__ is int:
        yield from (thing + 1, thing - 1, -thing - 1, str(thing), bool(thing))
    if thing.__class__ is str:
        yield from (thing + "a", thing[1:], thing.upper(), thing + " ")
    for other in [True, False, None, 0, 1, 7, 10 ** 39, "", "a", [], ["a"], (), ("a",), ("pass",), ("pay", 1), {}, {"a": 1}]:
        if repr(other) != repr(thing):
            yield other


class Lossy(Both):
    """Two partners over lines that lose, double and change what is under way."""

    def test_many_moves(self):
        words, done = set(), 0
        for seed in range(80):
            chance = random.Random(seed)
            self.start()
            lines, shown = [[], []], {}
            for now in range(60):
                if chance.random() < 0.1:
                    shown.setdefault(chance.choice(("open", "shut")), now)
                for party in (0, 1):
                    self.speak(chance, lines, party, now)
                    self.listen(chance, lines, party, shown, now, words)
                one, other = self.both
                self.assertIn(one.state()[2] - other.state()[2], (-1, 0, 1))
                if one.state()[2] == other.state()[2]:
                    self.assertEqual((one.state(), one.sealed()), (other.state(), other.sealed()))
            # An offer that is heard too late to be taken waits for ever: not all of them come far.
            done += one.state()[2]
        self.assertGreater(done, 400)
        self.assertEqual(words, {"pay", "give", "claim", "back", "late", "pass"})

    def speak(self, chance, lines, party, now):
        one = self.both[party]
        move = self.some_move(chance, one.state(), party, now)
        try:
            message = one.offer(move, now)
        except YardError:
            message = one.again()
        if message is not None:
            lines[1 - party] += [message] * chance.randint(0, 2)
            if chance.random() < 0.3:
                lines[1 - party].append(chance.choice([each for each in all_exchanged(message)]))

    def some_move(self, chance, state, party, now):
        marks = [promise[0] for promise in state[5]]
        lock, until = chance.choice((OPEN, SHUT)), now + chance.choice((3, 4, 5, 8))
        return chance.choice((
            ("pay", chance.randint(1, 9)), ("give", max([0, *marks]) + 1, chance.randint(1, 5), lock, until), ("pass",),
            ("claim", chance.choice([1, *marks]), chance.choice(("open", "shut"))), ("claim", chance.choice([1, *marks]), chance.choice(("open", "shut"))),
            ("back", chance.choice([1, *marks])), ("late", chance.choice([1, *marks])), ("late", chance.choice([1, *marks])),
        ))

    def listen(self, chance, lines, party, shown, now, words):
        chance.shuffle(lines[party])
        while lines[party] and chance.random() < 0.7:
            message = lines[party].pop()
            one, other = self.both[party], self.both[1 - party]
            before = told_of(one)
            told = one.hear(message, pools_by(), dict(shown), now)
            if told is None:
                self.assertEqual(told_of(one), before)
            elif told == "agreed":
                self.assertEqual((one.state(), one.waiting()), (before[1], None))
            else:
                self.assertEqual(told, ("agree", one.state()[2], seal(party, one.state())))
                lines[1 - party] += [told] * chance.randint(0, 2)
                if one.state() != before[0]:
                    words.add(message[2][0])
                    self.assertEqual(repr(message), repr(other.again()))
            again = partner_of(one.told(), good_of(KEYS[1 - party]), digest)
            self.assertEqual(repr(told_of(again)), repr(told_of(one)))


if __name__ == "__main__":
    unittest.main()

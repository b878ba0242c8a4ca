"""[110], [111], [4]: members, their wishes, and what their rules have them do."""

import unittest

from clearyard.errors import NoMove, NoName, NoPool
from clearyard.members import Member
from clearyard.moves import moved
from clearyard.partners import Partner
from clearyard.seals import is_sealed
from clearyard.states import state_text
from things import DIGEST, MOST, NOT_AMOUNTS, NOT_DIGESTS, NOT_NAMES, NOT_NUMBERS, NOT_SECRETS, NOT_TIMES, ODD, Asked, Case, Spoiled, digest

OTHERS = {1: "bobs", 2: "cids", 3: "dans", 5: "eves"}
LOCKS = {secret: digest("lock " + secret) for secret in ("a", "b", "c", "d", "open", "shut")}
OPEN, SHUT = LOCKS["open"], LOCKS["shut"]


def good_of(key, told=digest):
    return lambda text, seal: seal == told(key + " " + text)


def seal(key, state, told=digest):
    return told(key + " " + state_text(state))


class Own(Case):
    """Ann, a member with some pools of 50 and 50, and the others of these."""

    def start(self, parties, told=digest):
        """Ann is the told party of each pool."""
        self.mine, self.others, self.parties, self.told = {}, {}, parties, told
        for number in sorted(parties, reverse=True):
            both = [None, None]
            for party in (0, 1):
                keys = ("anns", OTHERS[number]) if party == parties[number] else (OTHERS[number], "anns")
                both[party] = Partner(number, party, 50, 50, keys[0], good_of(keys[1], told), told)
            self.mine[number], self.others[number] = both[parties[number]], both[1 - parties[number]]
        self.member = Member("ann", self.mine)

    def pools(self, **status):
        """The pools as a court's: all are open, but for those told by number."""
        told = {}
        for number in sorted(self.parties):
            how = status.get(f"p{number}", "open")
            names = ("ann", OTHERS[number][:3]) if self.parties[number] == 0 else (OTHERS[number][:3], "ann")
            if how is not None:
                told[number] = (*names, 5, ("state", number, 0, 50, 50, ()), how, None if how == "open" else 9)
        return told

    def deal(self, number, *moves, now=0, board=None):
        """Both offer these moves by turns, and agree."""
        for move in moves:
            both = [self.mine[number], self.others[number]]
            both = both if self.parties[number] == 0 else both[::-1]
            party = both[0].state()[2] % 2
            both[party].offer(move, now)
            reply = both[1 - party].hear(both[party].again(), self.pools(), board or {}, now)
            self.assertEqual(both[party].hear(reply, self.pools(), board or {}, now), "agreed")

    def stand(self):
        """All that can be seen of ann: of wishes and of what was handed on, what comes of them later."""
        told = [self.member.knows(), [(number, one.told()) for number, one in sorted(self.mine.items())]]
        twins = {number: one.twin() for number, one in self.mine.items()}
        return told, {number: (one.again(), one.waiting()) for number, one in twins.items()}

    def offer(self, number, move):
        """The offer of a move by ann in a pool, as it must be."""
        after = moved(self.mine[number].state(), self.parties[number], move, self.told)
        return ("say", number, ("offer", after[2], move, seal("anns", after, self.told)))

    def acts(self, *things, pools=None, board=None, now=0):
        """What is told: deeds at the court, and moves by pools, which must be the offers of these."""
        parts = (self.pools() if pools is None else pools, board or {}, now)
        before = repr(parts)
        due = [self.offer(*thing) if thing[0] in self.parties else thing for thing in things]
        told = self.member.act(*parts)
        self.assertEqual(repr(told), repr(due))
        self.assertEqual(repr(parts), before)
        return told

    def again(self, things, **status):
        """That what was said is said again, and nothing else, till it is answered."""
        says = [thing for thing in things if thing[0] == "say"]
        self.assertEqual(self.member.act(self.pools(**status), {}, 0), says)

    def said(self, number):
        """The move that waits in a pool."""
        return self.mine[number].again()[2]


class Begin(Own):

    def test_no_name(self):
        self.start({1: 0})
        for name in NOT_NAMES:
            self.refused(NoName, {"name": name}, Member, name, {})
        for name in (None, "Ann"):
            with self.assertRaises(NoName):
                Member(name, {2: self.mine[1]})

    def test_no_pool_of_the_first_rising(self):
        self.start({1: 0, 2: 0, 3: 1})
        for partners, number in (
            ({2: self.mine[1]}, 2), ({3: self.mine[1], 2: self.mine[3]}, 2), ({3: self.mine[2], 2: self.mine[2]}, 3), ({1: self.mine[1], 3: self.mine[2], 2: self.mine[3]}, 2),
        ):
            with self.assertRaises(NoPool) as caught:
                Member("ann", partners)
            self.assertEqual(vars(caught.exception), {"number": number})
        Member("ann", {3: self.mine[3], 1: self.mine[1], 2: self.mine[2]})

    def test_by_name(self):
        self.start({1: 0})
        member = Member(partners=self.mine, name="ann")
        self.assertEqual(member.knows(), [])
        self.assertEqual(member.act(now=0, board={}, pools={}), [])
        self.assertEqual(Member("ann", {}).act({}, {}, 0), [])
        self.assertEqual((Member("ann", {}).ends({}), Member("ann", {}).sure({}, {}, 0)), ([], 0))

    def test_its_partners_are_worked_on(self):
        self.start({1: 0})
        mine = dict(self.mine)
        self.acts((1, ("pass",)))
        self.assertEqual(self.mine, mine)
        self.assertEqual(mine[1].waiting(), ("state", 1, 1, 50, 50, ()))


class Wishes(Own):

    def setUp(self):
        self.start({1: 0, 2: 1, 3: 0})

    def refuse(self, row):
        before = repr(self.stand())
        self.refused(NoMove, {}, self.member.wish, row)
        self.assertEqual(repr(self.stand()), before)

    def test_of_no_such_form(self):
        for row in [
            *ODD, 0, ["pay", 1, 5], ("pay",), ("pay", 1), ("pay", 1, 5, 5), ("Pay", 1, 5), ("give", 1, 5), ("claim", 1, "open"), ("pass",), ("take",), ("take", "a", "b"),
            ("send", 1, 5, OPEN), ("send", 1, 5, OPEN, 9, 9), ("hand", 1, 2, OPEN), ("hand", 1, 2, OPEN, 5, 5), (["pay"], 1, 5), (("pay",), 1, 5), (None, 1, 5), (True, 1, 5),
        ]:
            self.refuse(row)

    def test_each_part(self):
        pools = [*NOT_NUMBERS, 0, 4, 5, -1, 10 ** 39]
        for row, bad in (
            (("pay", 1, 5), (pools, NOT_AMOUNTS)),
            (("send", 1, 5, OPEN, 9), (pools, NOT_AMOUNTS, NOT_DIGESTS, NOT_TIMES)),
            (("hand", 1, 2, OPEN, 5), (pools + [2], pools + [1], NOT_DIGESTS, NOT_AMOUNTS)),
            (("take", "open"), (NOT_SECRETS,)),
        ):
            for at, things in enumerate(bad):
                for thing in things:
                    self.refuse((*row[:at + 1], thing, *row[at + 2:]))
            self.assertIsNone(self.member.wish(row))
        self.acts((1, ("pay", 5)), (3, ("pass",)))

    def test_each_part_at_its_bounds(self):
        for row in (
            ("pay", 3, 1), ("pay", 1, MOST), ("send", 1, 1, 0, 0), ("send", 1, MOST, DIGEST, 10 ** 39), ("hand", 1, 2, 0, 1), ("hand", 3, 1, DIGEST, MOST),
            ("take", "a"), ("take", "z" * 20),
        ):
            self.assertIsNone(self.member.wish(row=row))
        self.assertEqual(self.member.knows(), ["a", "z" * 20])

    def test_knows(self):
        self.assertEqual(self.member.knows(), [])
        self.mine[2].learn("b")
        self.mine[1].learn("d")
        self.mine[3].learn("b")
        self.member.wish(("take", "c"))
        self.member.wish(("take", "a"))
        self.member.wish(("take", "d"))
        self.assertEqual(self.member.knows(), ["a", "b", "c", "d"])
        self.member.knows().clear()
        self.assertEqual(self.member.knows(), ["a", "b", "c", "d"])
        # A wish to take is learnt by its partners when it acts.
        self.assertEqual([self.mine[number].knows() for number in (1, 2, 3)], [["d"], ["b"], ["b"]])


class Acts(Own):

    def test_all_learn_what_it_knows_and_what_is_on_the_board(self):
        self.start({1: 0, 2: 1, 3: 1})
        self.mine[2].learn("b")
        self.member.wish(("take", "d"))
        for pools in ({}, self.pools(p1="closed", p2="closing", p3=None)):
            self.member.act(pools, {"c": 5, "a": 10 ** 39}, 0)
            for number in (1, 2, 3):
                self.assertEqual(self.mine[number].knows(), ["a", "b", "c", "d"])
        self.assertEqual(self.member.knows(), ["a", "b", "c", "d"])

    def test_answers_of_all_pools_ahead_of_what_is_said(self):
        self.start({1: 0, 2: 0, 3: 1, 5: 0})
        for number in (1, 2, 5):
            self.deal(number, ("pass",), ("give", 1, number, OPEN, 9), ("pass",), ("pass",))
        self.deal(3, ("give", 1, 7, SHUT, 8), ("pass",), ("pass",))
        self.member.wish(("take", "open"))
        self.member.wish(("take", "shut"))
        self.acts(
            ("post", self.mine[1].sealed()), ("show", "open"), ("show", "open"), ("show", "shut"), ("post", self.mine[5].sealed()), ("show", "open"),
            (2, ("pass",)), (3, ("pass",)), pools=self.pools(p1="closing", p5="closing"), now=7,
        )

    def test_an_offer_that_waits_again(self):
        self.start({1: 0, 2: 0})
        self.member.wish(("pay", 1, 5))
        first = self.acts((1, ("pay", 5)), (2, ("pass",)))
        self.member.wish(("pay", 1, 6))
        for now in (0, 5, 99):
            self.assertEqual(self.member.act(self.pools(), {}, now), first)
        for status in ("closing", "closed", None):
            self.assertEqual(self.member.act(self.pools(p1=status), {}, 0), first[1:])
        reply = self.others[1].hear(first[0][2], self.pools(), {}, 0)
        self.assertEqual(self.member.hear(1, reply, self.pools(), {}, 0), "agreed")
        self.assertEqual(self.member.act(self.pools(), {}, 0), first[1:])
        self.deal(1, ("pass",))
        self.acts((1, ("pay", 6)), first[1])

    def test_only_where_it_is_its_turn(self):
        self.start({1: 1, 2: 0})
        self.member.wish(("pay", 1, 5))
        self.acts((2, ("pass",)))
        self.deal(1, ("pass",))
        self.acts((1, ("pay", 5)), ("say", 2, self.mine[2].again()))

    def test_only_where_the_pool_is_open(self):
        for status in ("closing", "closed", None):
            self.start({1: 0, 2: 0})
            self.member.wish(("pay", 1, 5))
            self.acts((2, ("pass",)), pools=self.pools(p1=status))
            self.assertEqual(self.mine[1].again(), None)
            self.acts((1, ("pay", 5)), ("say", 2, self.mine[2].again()))

    def test_a_claim_by_time(self):
        for now, shown, board in (
            (0, True, {}), (6, True, {}), (7, False, {}), (9, False, {}), (99, False, {}), (7, True, {"open": 8}), (99, True, {"open": 0}), (9, True, {"open": 8}),
            (9, False, {"open": 9}), (99, False, {"open": 10}), (6, True, {"open": 6}), (7, False, {"shut": 0}), (6, True, {"shut": 0}),
        ):
            self.start({1: 1})
            self.deal(1, ("give", 3, 5, OPEN, 9), ("pass",), ("pass",))
            self.member.wish(("take", "open"))
            move = ("claim", 3, "open") if shown else ("pass",)
            told = self.member.act(self.pools(), board, now)
            self.assertEqual(self.said(1), move, (now, board))
            self.assertEqual(told[-1], self.offer(1, move))

    def test_a_claim_of_a_secret_that_it_does_not_know(self):
        self.start({1: 1})
        self.deal(1, ("give", 1, 5, OPEN, 9), ("pass",), ("pass",))
        self.member.wish(("take", "shut"))
        self.acts((1, ("pass",)))
        # It is learnt of the board, though it was shown too late for another promise of the same lock.
        self.start({1: 1})
        self.deal(1, ("give", 1, 5, OPEN, 9), ("pass",), ("pass",))
        self.acts((1, ("claim", 1, "open")), board={"open": 9})

    def test_claims_by_marks(self):
        self.start({1: 1})
        self.deal(1, ("give", 1, 5, SHUT, 9), ("pass",), ("give", 2, 5, OPEN, 5), ("pass",), ("give", 4, 5, OPEN, 9), ("pass",), ("give", 9, 5, OPEN, 19), ("pass",), ("pass",))
        self.member.wish(("take", "open"))
        twin = self.member.twin()
        for now, mark in ((0, 2), (2, 2), (3, 4), (6, 4), (7, 9), (16, 9), (17, None)):
            told = twin.twin().act(self.pools(), {}, now)[-1]
            self.assertEqual(told[2][2], ("pass",) if mark is None else ("claim", mark, "open"))
        told = twin.act(self.pools(), {"open": 5}, 17)
        self.assertEqual(told[-1][2][2], ("claim", 4, "open"))

    def test_no_claim_of_its_own(self):
        self.start({1: 0})
        self.deal(1, ("give", 1, 5, OPEN, 9), ("pass",))
        self.member.wish(("take", "open"))
        self.acts((1, ("pass",)))

    def test_claims_by_several_secrets_of_a_lock(self):
        def alike(text):
            return 7 if text.startswith("lock") else digest(text)
        self.start({1: 1}, alike)
        self.deal(1, ("give", 1, 5, 7, 9), ("pass",), ("pass",))
        for secret in ("c", "b"):
            self.member.wish(("take", secret))
        self.assertIn(self.member.twin().act(self.pools(), {"d": 3}, 0)[-1][2][2], [("claim", 1, secret) for secret in "bcd"])
        claim = self.member.act(self.pools(), {"d": 3}, 8)[-1]
        self.assertEqual(self.others[1].hear(claim[2], self.pools(), {"d": 3}, 8)[0], "agree")

    def test_a_late_by_time(self):
        for now, late, board in (
            (0, False, {}), (8, False, {}), (9, True, {}), (99, True, {}), (9, False, {"open": 8}), (99, False, {"open": 0}), (9, True, {"open": 9}),
            (10, True, {"open": 10}), (9, True, {"shut": 0}),
        ):
            self.start({1: 0})
            self.deal(1, ("give", 1, 5, OPEN, 9), ("pass",))
            self.member.wish(("pay", 1, 5))
            self.acts((1, ("late", 1) if late else ("pay", 5)), board=board, now=now)

    def test_lates_by_marks(self):
        self.start({1: 0})
        self.deal(1, ("give", 1, 5, SHUT, 9), ("give", 2, 1, OPEN, 4), ("give", 3, 5, OPEN, 6), ("pass",), ("give", 4, 5, OPEN, 4), ("pass",))
        for now, board, move in (
            (3, {}, ("pass",)), (4, {}, ("late", 4)), (6, {}, ("late", 3)), (9, {}, ("late", 1)), (9, {"shut": 8}, ("late", 3)), (9, {"open": 5}, ("late", 1)),
            (9, {"shut": 8, "open": 5}, ("late", 4)), (9, {"open": 3}, ("claim", 2, "open")),
        ):
            self.assertEqual(self.member.twin().act(self.pools(), board, now)[-1][2][2], move, (now, board))

    def test_claim_ahead_of_late_ahead_of_wishes(self):
        self.start({1: 0})
        self.deal(1, ("give", 1, 5, SHUT, 4), ("give", 2, 5, OPEN, 19))
        self.member.wish(("pay", 1, 9))
        self.member.wish(("take", "open"))
        self.acts((1, ("claim", 2, "open")), now=4)
        self.others[1].hear(self.mine[1].again(), self.pools(), {}, 4)
        self.mine[1].hear(("agree", 3, seal("bobs", self.mine[1].waiting())), self.pools(), {}, 4)
        self.deal(1, ("pass",), now=4)
        self.acts((1, ("late", 1)), now=4)
        self.others[1].hear(self.mine[1].again(), self.pools(), {}, 4)
        self.mine[1].hear(("agree", 5, seal("bobs", self.mine[1].waiting())), self.pools(), {}, 4)
        self.deal(1, ("pass",), now=4)
        self.acts((1, ("pay", 9)), now=4)

    def answered(self, number, now=0):
        """The offer that waits is agreed, and the other passes."""
        self.assertEqual(self.others[number].hear(self.mine[number].again(), self.pools(), {}, now)[0], "agree")
        self.assertEqual(self.mine[number].hear(("agree", self.mine[number].waiting()[2], seal(OTHERS[number], self.mine[number].waiting())), {}, {}, now), "agreed")
        self.deal(number, ("pass",), now=now)

    def test_wishes_in_their_order_the_others_stay(self):
        self.start({1: 0, 2: 0})
        for row in (("pay", 1, 51), ("pay", 2, 7), ("pay", 1, 20), ("pay", 1, 20), ("pay", 1, 11), ("send", 1, 1, OPEN, 9), ("pay", 2, 1)):
            self.member.wish(row)
        for move in (("pay", 20), ("pay", 20), ("give", 1, 1, OPEN, 9), ("pass",), ("pass",)):
            self.member.act(self.pools(p2=None), {}, 0)
            self.assertEqual(self.said(1), move)
            self.answered(1)
        # 51 and 11 wait till it has so much.
        self.deal(1, ("pass",), ("pay", 3))
        self.member.act(self.pools(), {}, 0)
        self.assertEqual([self.said(1), self.said(2)], [("pay", 11), ("pay", 7)])

    def test_a_pay_of_all_it_has(self):
        for amount, move in ((50, ("pay", 50)), (51, ("pass",))):
            self.start({1: 0})
            self.member.wish(("pay", 1, amount))
            self.acts((1, move))

    def test_a_send_by_time_and_amount(self):
        for amount, until, now, done in ((50, 4, 0, True), (50, 3, 0, False), (1, 104, 100, True), (1, 103, 100, False), (51, 9, 0, False), (1, 10 ** 39, 0, True), (1, 0, 0, False)):
            self.start({1: 0})
            self.member.wish(("send", 1, amount, OPEN, until))
            self.acts((1, ("give", 1, amount, OPEN, until) if done else ("pass",)), now=now)

    def test_a_mark_is_one_more_than_the_greatest(self):
        self.start({1: 0})
        self.deal(1, ("give", 7, 1, OPEN, 99), ("give", 9, 1, OPEN, 99), ("pass",), ("back", 7))
        self.member.wish(("send", 1, 5, SHUT, 99))
        self.acts((1, ("give", 10, 5, SHUT, 99)))

    def test_no_fifth_promise(self):
        self.start({1: 0})
        self.deal(1, *[("give", mark, 1, OPEN, 99) for mark in (1, 2, 3, 4)])
        self.member.wish(("send", 1, 5, SHUT, 99))
        self.acts((1, ("pass",)))
        self.answered(1)
        self.deal(1, ("pass",), ("back", 1))
        self.acts((1, ("give", 5, 5, SHUT, 99)))

    def test_errors_of_the_digest(self):
        asked = Asked()
        self.start({1: 0, 2: 1, 3: 0}, asked)
        self.deal(1, ("pass",), ("give", 1, 5, OPEN, 9))
        self.deal(2, ("give", 1, 5, SHUT, 99), ("give", 2, 5, OPEN, 9), ("pass",))
        self.deal(3, ("pass",), ("give", 1, 20, SHUT, 99))
        for row in (("take", "open"), ("hand", 3, 2, SHUT, 4), ("pay", 3, 5)):
            self.member.wish(row)
        first = (self.pools(), {"b": 0}, 1)
        asked.texts.clear()
        many, told = self.spoiled_at_each(asked, self.stand, self.member.act, *first)
        self.assertGreater(many, 10)
        self.assertEqual([thing[2][2] for thing in told], [("claim", 1, "open"), ("give", 3, 4, SHUT, 99), ("pay", 5)])
        self.assertTrue(all(text.__class__ is str for text in asked.texts))
        self.assertEqual(self.member.act(*first), told)

    def test_wishes_stay_where_the_digest_raised_an_error(self):
        asked = Asked()
        self.start({1: 0, 2: 0}, asked)
        self.member.wish(("pay", 1, 5))
        self.member.wish(("pay", 2, 6))
        asked.left = 1
        with self.assertRaises(Spoiled):
            self.member.act(self.pools(), {}, 0)
        asked.left = None
        self.assertEqual([one.waiting() for one in self.mine.values()], [None, None])
        self.acts((1, ("pay", 5)), (2, ("pay", 6)))


class Hands(Own):
    """What is promised in the one pool is handed on in the other."""

    def setUp(self):
        # Ann has been promised 10 in pool 1; in pool 2 it is her turn.
        self.start({1: 1, 2: 0, 3: 0})
        self.deal(1, ("give", 1, 10, OPEN, 20))

    def hands(self, row, move, pools=None, now=0, number=2):
        """The move that comes of a wish, by a twin that has it."""
        twin = self.member.twin()
        twin.wish(row)
        told = {thing[1]: thing[2][2] for thing in twin.act(self.pools() if pools is None else pools, {}, now) if thing[0] == "say"}
        self.assertEqual(repr(told.get(number)), repr(move), (row, now))

    def test_by_its_until(self):
        self.hands(("hand", 1, 2, OPEN, 8), ("give", 1, 8, OPEN, 20))
        self.hands(("hand", 1, 3, OPEN, 8), ("give", 1, 8, OPEN, 20), number=3)

    def test_of_the_amount_and_one_more(self):
        self.hands(("hand", 1, 2, OPEN, 10), ("give", 1, 10, OPEN, 20))
        self.hands(("hand", 1, 2, OPEN, 11), ("pass",))
        self.hands(("hand", 1, 2, OPEN, 1), ("give", 1, 1, OPEN, 20))

    def test_at_six_ticks_and_five(self):
        for now, move in ((14, ("give", 1, 8, OPEN, 20)), (15, ("pass",)), (20, ("pass",)), (99, ("pass",)), (0, ("give", 1, 8, OPEN, 20))):
            self.hands(("hand", 1, 2, OPEN, 8), move, now=now)

    def test_by_that_lock(self):
        self.hands(("hand", 1, 2, SHUT, 8), ("pass",))
        self.hands(("hand", 1, 2, OPEN + 1, 8), ("pass",))

    def test_of_the_one_pool_in_the_other(self):
        self.hands(("hand", 2, 1, OPEN, 8), ("pass",))
        self.hands(("hand", 2, 3, OPEN, 8), ("pass",), number=3)
        self.hands(("hand", 3, 2, OPEN, 8), ("pass",))
        self.deal(2, ("pass",))
        self.hands(("hand", 1, 2, OPEN, 8), None)

    def test_the_first_pool_is_open(self):
        for status in ("closing", "closed", None):
            self.hands(("hand", 1, 2, OPEN, 8), ("pass",), pools=self.pools(p1=status))

    def test_no_promise_of_its_own(self):
        self.start({1: 0, 2: 0})
        self.deal(1, ("give", 1, 10, OPEN, 20))
        self.hands(("hand", 1, 2, OPEN, 8), ("pass",))

    def test_of_the_agreed_state_alone(self):
        """An offer that ann has not heard promises nothing; one that waits, of her own, takes nothing away."""
        self.start({1: 1, 2: 0})
        self.others[1].offer(("give", 1, 10, OPEN, 20), 0)
        self.hands(("hand", 1, 2, OPEN, 8), ("pass",))
        self.start({1: 1, 2: 0})
        self.deal(1, ("give", 1, 10, OPEN, 20))
        self.mine[1].offer(("back", 1), 0)
        self.hands(("hand", 1, 2, OPEN, 8), ("give", 1, 8, OPEN, 20))

    def test_of_no_more_than_it_has_in_the_other(self):
        self.start({1: 1, 2: 0})
        self.deal(1, ("give", 1, 50, OPEN, 20))
        self.deal(2, ("pay", 45), ("pass",))
        self.hands(("hand", 1, 2, OPEN, 5), ("give", 1, 5, OPEN, 20))
        self.hands(("hand", 1, 2, OPEN, 6), ("pass",))

    def test_once_each(self):
        self.deal(1, ("pass",), ("give", 2, 10, OPEN, 30), ("pass",), ("give", 3, 4, OPEN, 30), ("pass",))
        for row in (("hand", 1, 2, OPEN, 5), ("hand", 1, 3, OPEN, 5), ("hand", 1, 2, OPEN, 5), ("hand", 1, 2, OPEN, 4), ("hand", 1, 3, OPEN, 1)):
            self.member.wish(row)
        moves = []
        for _ in range(4):
            self.member.act(self.pools(p1="open"), {}, 0)
            moves.append((self.said(2), self.said(3)))
            for number in (2, 3):
                self.others[number].hear(self.mine[number].again(), self.pools(), {}, 0)
                self.mine[number].hear(("agree", self.mine[number].waiting()[2], seal(OTHERS[number], self.mine[number].waiting())), {}, {}, 0)
                self.deal(number, ("pass",))
        self.assertEqual(moves, [
            (("give", 1, 5, OPEN, 20), ("give", 1, 5, OPEN, 30)), (("give", 2, 4, OPEN, 30), ("pass",)), (("pass",), ("pass",)), (("pass",), ("pass",)),
        ])
        self.assertEqual([one.state()[5] for one in (self.mine[2], self.mine[3])], [((1, 0, 5, OPEN, 20), (2, 0, 4, OPEN, 30)), ((1, 0, 5, OPEN, 30),)])

    def test_one_of_this_pool_mark_and_until(self):
        """A promise of another until is another one, though it has the mark of one that was handed on; else it is that one."""
        self.assertEqual(self.in_third(20), ("pass",))
        self.assertEqual(self.in_third(21), ("give", 1, 5, OPEN, 21))

    def in_third(self, until):
        """What is handed on in pool 3 by a promise of mark 1 and this until, behind one of 20 handed on in pool 2."""
        self.start({1: 1, 2: 0, 3: 1})
        self.deal(1, ("give", 1, 10, OPEN, 20))
        self.member.wish(("hand", 1, 2, OPEN, 5))
        self.member.act(self.pools(), {}, 0)
        self.assertEqual(self.said(2), ("give", 1, 5, OPEN, 20))
        self.others[1].hear(self.mine[1].again(), self.pools(), {}, 0)
        self.mine[1].hear(("agree", 2, seal("bobs", self.mine[1].waiting())), {}, {}, 0)
        self.deal(1, ("pass",), ("back", 1), ("give", 1, 10, OPEN, until))
        self.deal(3, ("pass",))
        self.member.wish(("hand", 1, 3, OPEN, 5))
        self.member.act(self.pools(), {}, 0)
        return self.said(3)

    def test_the_first_that_fits_by_marks(self):
        self.start({1: 1, 2: 0})
        self.deal(1, ("give", 2, 10, SHUT, 40), ("pass",), ("give", 4, 4, OPEN, 40), ("pass",), ("give", 6, 9, OPEN, 10), ("pass",), ("give", 8, 9, OPEN, 30))
        self.hands(("hand", 1, 2, OPEN, 4), ("give", 1, 4, OPEN, 40))
        self.hands(("hand", 1, 2, OPEN, 5), ("give", 1, 5, OPEN, 10))
        self.hands(("hand", 1, 2, OPEN, 5), ("give", 1, 5, OPEN, 10), now=4)
        self.hands(("hand", 1, 2, OPEN, 5), ("give", 1, 5, OPEN, 30), now=5)
        self.hands(("hand", 1, 2, SHUT, 5), ("give", 1, 5, SHUT, 40), now=5)

    def test_one_that_cannot_be_done_stays(self):
        self.start({1: 1, 2: 0})
        self.member.wish(("hand", 1, 2, OPEN, 5))
        self.member.wish(("pay", 2, 1))
        self.member.act(self.pools(), {}, 0)
        self.assertEqual(self.said(2), ("pay", 1))
        self.deal(1, ("give", 1, 10, OPEN, 20))
        self.others[2].hear(self.mine[2].again(), self.pools(), {}, 0)
        self.mine[2].hear(("agree", 1, seal("cids", self.mine[2].waiting())), {}, {}, 0)
        self.deal(2, ("pass",))
        self.member.act(self.pools(), {}, 0)
        self.assertEqual(self.said(2), ("give", 1, 5, OPEN, 20))

    def test_errors_of_the_digest_forget_nothing(self):
        asked = Asked()
        self.start({1: 1, 2: 0}, asked)
        self.deal(1, ("give", 1, 10, OPEN, 20))
        self.member.wish(("hand", 1, 2, OPEN, 5))
        self.spoiled_at_each(asked, self.stand, self.member.act, self.pools(), {}, 0)
        self.assertEqual(self.said(2), ("give", 1, 5, OPEN, 20))


class Hears(Own):

    def setUp(self):
        self.start({1: 1, 2: 0})

    def test_a_reply_to_an_offer(self):
        message = self.others[1].offer(("pay", 5), 0)
        after = ("state", 1, 1, 45, 55, ())
        told = self.member.hear(now=0, board={}, pools=self.pools(), message=message, pool=1)
        self.assertEqual(repr(told), repr(("say", 1, ("agree", 1, seal("anns", after)))))
        self.assertEqual(self.mine[1].state(), after)
        self.assertEqual(self.member.hear(1, message, {}, {}, 99), told)

    def test_agreed(self):
        self.member.act(self.pools(), {}, 0)
        after = self.mine[2].waiting()
        self.assertEqual(self.member.hear(2, ("agree", 1, seal("cids", after)), {}, {}, 0), "agreed")
        self.assertTrue(is_sealed(self.mine[2].sealed(), ["anns", "cids"], digest))

    def test_none_of_all_else(self):
        message = self.others[1].offer(("pay", 5), 0)
        for thing in [*ODD, 0, "agreed", ("say", 1, message), message[:3], (*message, 0), ("agree", 1, message[3])]:
            before = repr(self.stand())
            self.assertIsNone(self.member.hear(1, thing, self.pools(), {}, 0))
            self.assertIsNone(self.member.hear(2, thing, self.pools(), {}, 0))
            self.assertEqual(repr(self.stand()), before)
        self.assertIsNone(self.member.hear(1, message, self.pools(p1="closing"), {}, 0))
        self.assertIsNone(self.member.hear(2, message, self.pools(), {}, 0))

    def test_no_pool(self):
        message = self.others[1].offer(("pay", 5), 0)
        for pool in [*NOT_NUMBERS, 0, 3, -1, 10 ** 39]:
            before = repr(self.stand())
            self.refused(NoPool, {"number": pool}, self.member.hear, pool, message, self.pools(), {}, 0)
            self.assertEqual(repr(self.stand()), before)

    def test_errors_of_the_digest(self):
        asked = Asked()
        self.start({1: 1}, asked)
        self.deal(1, ("pass",), ("give", 1, 5, OPEN, 9))
        message = self.others[1].offer(("claim", 1, "open"), 0)
        many, told = self.spoiled_at_each(asked, self.stand, self.member.hear, 1, message, self.pools(), {}, 0)
        self.assertEqual((many, told[:2], self.member.knows()), (3, ("say", 1), ["open"]))


class Ends(Own):

    def test_posts_and_leaves_of_open_pools_rising(self):
        self.start({3: 0, 1: 1, 2: 0, 5: 0})
        self.deal(2, ("pay", 5), ("pay", 1))
        self.deal(1, ("pass",))
        posts = {number: ("post", self.mine[number].sealed()) for number in (1, 2)}
        for status, due in (
            ({}, [posts[1], posts[2], ("leave", 3), ("leave", 5)]), ({"p1": "closing", "p3": "closed"}, [posts[2], ("leave", 5)]), ({"p2": None, "p5": None}, [posts[1], ("leave", 3)]),
            ({"p1": "closed", "p2": "closing", "p3": None, "p5": "closing"}, []),
        ):
            before = repr(self.stand())
            self.assertEqual(repr(self.member.ends(pools=self.pools(**status))), repr(due))
            self.assertEqual(repr(self.stand()), before)

    def test_the_agreed_one_though_another_waits(self):
        self.start({1: 0})
        self.member.wish(("pay", 1, 5))
        self.member.act(self.pools(), {}, 0)
        self.assertEqual(self.member.ends(self.pools()), [("leave", 1)])

    def test_sure_of_all_pools_together(self):
        self.start({1: 1, 2: 0, 3: 1})
        self.assertEqual(self.member.sure(self.pools(), {}, 0), 150)
        self.deal(1, ("give", 1, 10, OPEN, 9))
        self.deal(2, ("give", 1, 5, SHUT, 9))
        self.assertEqual(self.member.sure(self.pools(), {}, 0), 145)
        self.assertEqual(self.member.sure(now=0, board={"open": 8}, pools=self.pools()), 155)
        self.assertEqual(self.member.sure(self.pools(p3=None), {}, 9), 100)
        self.assertEqual(self.member.sure({}, {}, 0), 0)
        for number in (1, 2, 3):
            pools = {number: self.pools()[number]}
            self.assertEqual(self.member.sure(pools, {"open": 8}, 0), self.mine[number].sure(pools, {"open": 8}, 0))


if __name__ == "__main__":
    unittest.main()

"""[130], [131], [4]: each deed of a yard, done and refused, and all that a yard tells."""

import unittest

from clearyard.clearing import Clearing
from clearyard.errors import Done, NoAmount, NoDeed, NoHow, NoMove, NoName, NoOrder, NoOrders, NoPool, NoPot, NoSeal, NoState, NoTime, NoTree, NotNow, Short, YardError
from clearyard.ledger import Ledger
from clearyard.members import Member
from clearyard.trees import Tree
from clearyard.yards import Yard, led
from some_yards import KEYS, LOCKS, NAMES, YardCase, closing_seals, entered, sealed, seen, stands
from things import MOST, NOT_AMOUNTS, NOT_COUNTS, NOT_NAMES, NOT_NUMBERS, NOT_SECRETS, ODD, Asked, Spoiled, digest

FORMS = {
    "enter": ("ann", "anns"), "put": ("ann", 5), "take": ("ann", 5), "order": (("order", "ann", "bob", 5, 0, 0, 9),), "drop": (1,), "round": ("great",),
    "hold": ("ann", "bob", 5, 9), "claim": (1, 5), "back": (1,), "found": ("ann", "bob", 5, 5, 5), "wish": ("ann", ("take", "a")), "act": ("ann",), "ends": ("ann",),
    "arrive": (1, 0, 0), "lose": (1, 0, 0), "copy": (1, 0, 0), "forge": (1, 0, None), "post": (None,), "leave": (1,), "agree": (1, 5, 5, [1, 1]), "show": ("a",),
    "tick": (1,),
}


class Begin(YardCase):

    def test_at_first(self):
        for yard in (Yard(digest), Yard(digest=digest), led(digest, []), led(deeds=(), digest=digest)):
            self.assertEqual((yard.now(), yard.holds(), yard.pools(), yard.board(), yard.deeds()), (0, {}, {}, {}, []))
            self.assertEqual((yard.ledger(), yard.ledger().rows()), (Ledger(), []))
            self.assertEqual((yard.clearing().queue(), yard.clearing().rounds(), yard.clearing().now()), ({}, [], 0))
        self.assertEqual(Yard(digest).log(), [])

    def test_kinds(self):
        yard = entered()
        self.assertEqual([yard.ledger().__class__, yard.clearing().__class__, yard.member("ann").__class__, yard.tree().__class__], [Ledger, Clearing, Member, Tree])


class NoDeeds(YardCase):

    def test_of_no_such_form(self):
        yard = entered()
        words = [(word.upper(), *parts) for word, parts in FORMS.items()] + [(" " + word, *parts) for word, parts in FORMS.items()]
        for deed in [*ODD, 0, *words, ("move", "ann", "bob", 5), ("lock", [("ann", 5)]), ("share", 1, []), ("net", []), ("on", 1), ("all_done", []), ("do", ("tick", 1))]:
            self.kept(yard, NoDeed, {"at": 0}, deed)
        for word, parts in FORMS.items():
            for deed in [[word, *parts], (word,), (word, *parts[:-1]), (word, *parts, 1), (word, *parts, None), parts, ((word,), *parts), ([word], *parts), (None, *parts), (word, parts)]:
                if len(deed) != len(parts) + 1 or deed[0] != word or isinstance(deed, list):
                    self.kept(yard, NoDeed, {"at": 0}, deed)

    def test_of_another_party_ahead_of_all_else(self):
        yard = entered()
        yard.do(("found", "ann", "bob", 5, 5, 5))
        for word in ("arrive", "lose", "copy", "forge"):
            for party in [*NOT_NUMBERS, 2, -1, 10 ** 39]:
                for pool in (1, 2, None):
                    self.kept(yard, NoDeed, {"at": 0}, (word, pool, party, 5))


class Accounts(YardCase):

    def test_enter(self):
        yard = Yard(digest)
        self.assertIsNone(yard.do(deed=("enter", "ann", "anns")))
        self.assertIsNone(yard.do(("enter", "bob", "z" * 20)))
        self.assertEqual(yard.ledger().rows(), [("enter", (("ann", 0),)), ("enter", (("bob", 0),))])
        self.assertEqual((yard.worth("ann"), yard.member("ann").knows()), ((0, 0, 0), []))
        for name in [*NOT_NAMES, "ann", "bob"]:
            for key in ("cids", "anns", None):
                self.kept(yard, NoName, {"name": name}, ("enter", name, key))
        for key in [*NOT_SECRETS, "anns", "z" * 20]:
            self.kept(yard, NoSeal, {}, ("enter", "cid", key))
        self.assertIsNone(yard.do(("enter", "cid", "ann")))
        self.assertEqual(yard.ledger().names(), ["ann", "bob", "cid"])

    def test_put_and_take(self):
        yard = entered(names=("ann", "bob"), amount=0)
        self.assertIsNone(yard.do(("put", "ann", MOST)))
        self.assertIsNone(yard.do(("put", "ann", 5)))
        self.assertIsNone(yard.do(("take", "ann", 7)))
        self.assertEqual((yard.worth("ann"), yard.ledger().total()), ((MOST - 2, 0, 0), MOST - 2))
        for word in ("put", "take"):
            for name in [*NOT_NAMES, "cid"]:
                self.kept(yard, NoName, {"name": name}, (word, name, 0))
            for amount in NOT_AMOUNTS:
                self.kept(yard, NoAmount, {}, (word, "bob", amount))
        self.kept(yard, Short, {"name": "bob"}, ("take", "bob", 1))
        self.kept(yard, Short, {"name": "ann"}, ("take", "ann", MOST - 1))
        self.assertIsNone(yard.do(("take", "ann", MOST - 2)))


class Orders(YardCase):

    def test_order_drop_round(self):
        yard = entered(amount=10)
        for number, order in enumerate((("order", "ann", "bob", 20, 0, 0, 9), ("order", "bob", "ann", 15, 0, 0, 9), ("order", "cid", "ann", 11, 0, 0, 9)), 1):
            self.assertEqual(yard.do(("order", order)), number)
        told = yard.twin().do(("round", "great"))
        self.assertEqual(repr(told), repr(([1, 2], (2,))))
        self.assertEqual(yard.twin().do(("round", "best"))[0], [1, 2])
        self.assertIsNone(yard.do(("drop", 2)))
        self.assertEqual(yard.do(("round", "great"))[0], [])
        self.assertEqual(yard.do(("order", ("order", "cid", "ann", 10, 0, 0, 9))), 4)
        self.assertEqual(yard.do(("round", "best")), ([1, 4], yard.clearing().rounds()[-1][5]))
        self.assertEqual([yard.worth(name)[0] for name in NAMES], [0, 30, 0, 10])
        self.assertEqual([row[:4] for row in yard.clearing().rounds()], [(0, "great", [1, 3], []), (0, "best", [1, 3, 4], [1, 4])])
        self.assertEqual(list(yard.clearing().queue()), [3])

    def test_refused(self):
        yard = entered(amount=10)
        yard.do(("tick", 5))
        for order in [*ODD, ["order", "ann", "bob", 5, 0, 0, 9], ("order", "ann", "ann", 5, 0, 0, 9), ("order", "zoe", "bob", 0, 0, 0, 9), ("order", "ann", "bob", 5, 0, 9, 9)]:
            self.kept(yard, NoOrders, {}, ("order", order))
        self.kept(yard, NoName, {"name": "zoe"}, ("order", ("order", "zoe", "yan", 5, 0, 0, 5)))
        self.kept(yard, NoName, {"name": "yan"}, ("order", ("order", "ann", "yan", 5, 0, 0, 5)))
        self.kept(yard, NotNow, {}, ("order", ("order", "ann", "bob", 5, 0, 0, 5)))
        self.assertEqual(yard.do(("order", ("order", "ann", "bob", 5, 0, 0, 6))), 1)
        for number in [*NOT_NUMBERS, 0, 2, -1, 10 ** 39]:
            self.kept(yard, NoOrder, {"number": number}, ("drop", number))
        for how in [*ODD, 0, "Great", "good", ["great"], ("best",)]:
            self.kept(yard, NoHow, {}, ("round", how))

    def test_orders_that_are_over(self):
        yard = entered(amount=10)
        yard.do(("order", ("order", "ann", "bob", 5, 0, 0, 3)))
        yard.do(("order", ("order", "ann", "bob", 5, 0, 0, 4)))
        self.assertEqual(yard.do(("tick", 3)), ([], []))
        self.assertEqual(list(yard.clearing().queue()), [2])
        self.assertEqual(yard.clearing().now(), 3)


class Held(YardCase):

    def test_hold_claim_back(self):
        yard = entered(amount=100)
        yard.do(("tick", 5))
        self.assertEqual(yard.do(("hold", "ann", "bob", 30, 1)), 1)
        self.assertEqual(yard.do(("hold", "ann", "cid", 20, 7)), 2)
        self.assertEqual(yard.do(("hold", "bob", "ann", 9, 10 ** 38)), 3)
        self.assertEqual(yard.holds(), {1: ("ann", "bob", 30, 6), 2: ("ann", "cid", 20, 12), 3: ("bob", "ann", 9, 5 + 10 ** 38)})
        self.assertEqual([yard.worth(name) for name in NAMES], [(50, 50, 0), (91, 9, 0), (100, 0, 0), (100, 0, 0)])
        self.assertIsNone(yard.do(("claim", 2, 15)))
        self.assertIsNone(yard.do(("back", 3)))
        self.assertEqual([yard.worth(name) for name in NAMES], [(55, 30, 0), (100, 0, 0), (115, 0, 0), (100, 0, 0)])
        self.assertEqual(yard.do(("tick", 1)), ([1], []))
        self.assertEqual((yard.worth("ann"), yard.holds()), ((85, 0, 0), {}))

    def test_refused(self):
        yard = entered(amount=100)
        yard.do(("tick", 5))
        for name in [*NOT_NAMES, "zoe"]:
            self.kept(yard, NoName, {"name": name}, ("hold", name, "zoe", 0, 0))
            self.kept(yard, NoName, {"name": name}, ("hold", "ann", name, 0, 0))
        self.kept(yard, NoName, {"name": "ann"}, ("hold", "ann", "ann", 0, 0))
        for amount in NOT_AMOUNTS:
            self.kept(yard, NoAmount, {}, ("hold", "ann", "bob", amount, 0))
        for ticks in NOT_COUNTS:
            self.kept(yard, NoTime, {"time": ticks}, ("hold", "ann", "bob", 101, ticks))
        self.kept(yard, Short, {"name": "ann"}, ("hold", "ann", "bob", 101, 1))
        yard.do(("hold", "ann", "bob", 10, 9))
        yard.do(("found", "ann", "bob", 5, 5, 5))
        for number in [*NOT_NUMBERS, 0, 2, 3, -1, 10 ** 39]:
            self.kept(yard, NoPot, {"number": number}, ("claim", number, 0))
            self.kept(yard, NoPot, {"number": number}, ("back", number))
        for amount in [*NOT_AMOUNTS, 11]:
            self.kept(yard, NoAmount, {}, ("claim", 1, amount))
        self.assertIsNone(yard.do(("claim", 1, 10)))


class Founded(YardCase):

    def test_found(self):
        yard = entered(amount=100)
        yard.do(("hold", "ann", "bob", 1, 9))
        self.assertEqual(yard.do(("found", "bob", "ann", 30, 20, 7)), 2)
        self.assertEqual(yard.do(("found", "bob", "ann", 0, 1, 2)), 3)
        self.assertEqual(yard.do(("found", "cid", "bob", 1, 0, 100)), 4)
        self.assertEqual(yard.pools()[2], ("bob", "ann", 7, ("state", 2, 0, 30, 20, ()), "open", None))
        self.assertEqual([yard.worth(name) for name in NAMES], [(78, 1, 21), (70, 0, 30), (99, 0, 1), (100, 0, 0)])
        for pool in (2, 3, 4):
            self.assertEqual([yard.line(pool, party) for party in (0, 1)], [[], []])
        self.assertEqual(yard.member("ann").ends(yard.pools()), [("leave", 2), ("leave", 3)])
        self.assertEqual([thing[:2] for thing in yard.do(("act", "bob"))], [("say", 2), ("say", 3)])

    def test_refused(self):
        yard = entered(amount=100)
        for name in [*NOT_NAMES, "zoe"]:
            self.kept(yard, NoName, {"name": name}, ("found", name, "zoe", -1, 0, 0))
            self.kept(yard, NoName, {"name": name}, ("found", "ann", name, -1, 0, 0))
        self.kept(yard, NoName, {"name": "ann"}, ("found", "ann", "ann", -1, 0, 0))
        for x, y in ((0, 0), (MOST + 1, 5), (5, MOST + 1), (-1, 5), (True, 5), (5, False), (None, 5), (5, "5")):
            self.kept(yard, NoAmount, {}, ("found", "ann", "bob", x, y, 0))
        for wait in [*NOT_NUMBERS, 1, 0, 101, -2, 10 ** 39]:
            self.kept(yard, NoTime, {"time": wait}, ("found", "ann", "bob", 101, 101, wait))
        self.kept(yard, Short, {"name": "ann"}, ("found", "ann", "bob", 101, 101, 5))
        self.kept(yard, Short, {"name": "bob"}, ("found", "ann", "bob", 100, 101, 5))
        self.assertEqual(yard.do(("found", "ann", "bob", 100, 100, 5)), 1)


class Acting(YardCase):

    def setUp(self):
        self.yard = entered(amount=100)
        self.yard.do(("found", "ann", "bob", 30, 20, 5))
        self.yard.do(("found", "cid", "ann", 30, 20, 5))

    def do(self, *deed):
        return self.yard.do(deed)

    def test_wish(self):
        self.assertIsNone(self.do("wish", "ann", ("pay", 1, 7)))
        self.assertIsNone(self.do("wish", "bob", ("take", "open")))
        self.assertEqual(self.yard.member("bob").knows(), ["open"])
        self.assertEqual(self.do("act", "ann")[0][2][2], ("pay", 7))
        for name in [*NOT_NAMES, "zoe"]:
            self.kept(self.yard, NoName, {"name": name}, ("wish", name, None))
        for row in [*ODD, ("pay", 3, 7), ("pay", 1, 0), ["pay", 1, 7], ("hand", 1, 1, 5, 5), ("hand", 1, 3, 5, 5)]:
            self.kept(self.yard, NoMove, {}, ("wish", "ann", row))
        self.kept(self.yard, NoMove, {}, ("wish", "bob", ("pay", 2, 7)))

    def test_act_tells_and_puts_on_the_lines(self):
        told = self.do("act", "ann")
        twin = self.yard.twin()
        self.assertEqual([thing[:2] for thing in told], [("say", 1)])
        self.assertEqual((self.yard.line(1, 1), self.yard.line(1, 0)), ([told[0][2]], []))
        self.assertEqual([self.yard.line(2, party) for party in (0, 1)], [[], []])
        self.assertEqual(twin.do(("act", "ann")), told)
        self.assertEqual(twin.line(1, 1), [told[0][2]] * 2)
        self.assertEqual(self.do("act", "dan"), [])
        for name in [*NOT_NAMES, "zoe"]:
            self.kept(self.yard, NoName, {"name": name}, ("act", name))
            self.kept(self.yard, NoName, {"name": name}, ("ends", name))

    def talk(self, pool, name, party):
        """The name acts, its offer arrives, and the reply, too; nothing else is under way then."""
        self.do("act", name)
        for other in (0, 1):
            for number in self.yard.pools():
                while number != pool and self.yard.line(number, other):
                    self.do("lose", number, other, 0)
        self.assertEqual(self.do("arrive", pool, 1 - party, 0)[0], "say")
        self.assertEqual(self.do("arrive", pool, party, 0), "agreed")

    def test_arrive(self):
        self.do("wish", "ann", ("pay", 1, 7))
        offer = self.do("act", "ann")[0][2]
        told = self.do("arrive", 1, 1, 0)
        self.assertEqual(told[:2], ("say", 1))
        self.assertEqual((told[2][:2], told[2][0]), (("agree", 1), "agree"))
        self.assertEqual([self.yard.line(1, 0), self.yard.line(1, 1)], [[told[2]], []])
        self.assertEqual(repr(self.do("arrive", 1, 0, 0)), repr("agreed"))
        self.assertEqual([self.yard.line(1, 0), self.yard.line(1, 1)], [[], []])
        self.do("forge", 1, 1, offer)
        self.assertEqual(self.do("arrive", 1, 1, 0), told)
        self.assertIsNone(self.do("arrive", 1, 0, 0))
        self.assertEqual([self.yard.worth(name)[2] for name in NAMES], [43, 27, 30, 0])

    def test_places_on_a_line(self):
        for thing in ("a", "b", "c"):
            self.do("forge", 1, 0, thing)
        self.do("copy", 1, 0, 1)
        self.assertEqual(self.yard.line(1, 0), ["a", "b", "c", "b"])
        self.do("lose", 1, 0, 2)
        self.assertEqual(self.yard.line(pool=1, party=0), ["a", "b", "b"])
        self.assertIsNone(self.do("arrive", 1, 0, 0))
        self.assertEqual(self.yard.line(1, 0), ["b", "b"])
        for word in ("arrive", "lose", "copy"):
            for at in [*NOT_NUMBERS, 2, 3, -1, -2, 10 ** 39]:
                self.kept(self.yard, NoDeed, {"at": at}, (word, 1, 0, at))
            for at in (0, None, 5):
                self.kept(self.yard, NoDeed, {"at": at}, (word, 1, 1, at))
        self.do("lose", 1, 0, 1)
        self.do("lose", 1, 0, 0)
        self.kept(self.yard, NoDeed, {"at": 0}, ("lose", 1, 0, 0))

    def test_no_pool_of_none_that_ever_was(self):
        self.do("hold", "ann", "bob", 1, 9)
        for word in ("arrive", "lose", "copy", "forge"):
            for pool in [*NOT_NUMBERS, 0, 3, 4, -1, 10 ** 39]:
                self.kept(self.yard, NoPool, {"number": pool}, (word, pool, 0, 99))

    def test_lines_of_a_pool_that_is_none_any_more(self):
        offer = self.do("act", "ann")[0][2]
        self.do("agree", 1, 50, 0, closing_seals(1, 50, 0, ("anns", "bobs")))
        self.assertNotIn(1, self.yard.pools())
        self.assertEqual(self.yard.line(1, 1), [offer])
        self.do("copy", 1, 1, 0)
        self.do("forge", 1, 0, 7)
        self.assertIsNone(self.do("arrive", 1, 1, 0))
        self.do("lose", 1, 1, 0)
        self.assertEqual([self.yard.line(1, party) for party in (0, 1)], [[7], []])
        self.assertEqual(self.yard.worth("ann"), (100, 0, 20))

    def test_eight_things_at_most(self):
        for thing in range(9):
            self.assertIsNone(self.do("forge", 1, 1, thing))
        self.assertEqual(self.yard.line(1, 1), list(range(8)))
        self.assertEqual(self.yard.line(1, 0), [])
        # Of copies, of messages and of replies what has no room is lost, and the deed is done.
        self.assertIsNone(self.do("copy", 1, 1, 3))
        told = self.do("act", "ann")
        self.assertEqual(len(told), 1)
        self.assertEqual(self.yard.line(1, 1), list(range(8)))
        self.do("lose", 1, 1, 0)
        self.do("act", "ann")
        self.assertEqual(self.yard.line(1, 1), [*range(1, 8), told[0][2]])
        for thing in range(8):
            self.do("forge", 1, 0, -thing)
        self.assertEqual(self.do("arrive", 1, 1, 7)[0], "say")
        self.assertEqual([len(self.yard.line(1, party)) for party in (0, 1)], [8, 7])
        self.assertEqual(self.yard.line(1, 0), [-thing for thing in range(8)])
        self.assertEqual(self.yard.member("bob").ends(self.yard.pools())[0][0], "post")
        # The offer that waits is said again, and so is the reply, till they have room.
        self.do("act", "ann")
        self.do("lose", 1, 0, 0)
        self.assertEqual(self.do("arrive", 1, 1, 7)[0], "say")
        self.assertEqual(self.do("arrive", 1, 0, 7), "agreed")
        self.assertEqual(self.yard.deeds()[-1], ("arrive", 1, 0, 7))

    def test_what_is_forged(self):
        plain = (None, True, False, 0, -5, 10 ** 39, "", "a b", (), (1, (2, ("x", None, (True,)))), ("offer", 1, ("pass",), 5))
        other = ([], {}, [1], (1, []), (1, (2, ({},))), (("a",), (("b", ([],)),)), {"a": 1}, ((((((([1],),),),),),),))
        for thing in (*plain, *other):
            due = thing if thing in plain else None
            self.assertIsNone(self.do("forge", 1, 0, thing))
            self.assertEqual(repr(self.yard.line(1, 0)), repr([due]))
            self.assertEqual(repr(self.yard.deeds()[-1]), repr(("forge", 1, 0, due)))
            self.assertIsNone(self.do("arrive", 1, 0, 0))
        deep = ()
        for _ in range(700):
            deep = (deep,)
        self.do("forge", 1, 0, deep)
        self.assertIsNone(self.do("arrive", 1, 0, 0))
        for _ in range(10):
            self.do("forge", 1, 0, [5])
        self.do("forge", 1, 0, 6)
        self.assertEqual(self.yard.line(1, 0), [None] * 8)
        self.assertEqual(self.yard.deeds()[-2:], [("forge", 1, 0, None), ("forge", 1, 0, 6)])

    def test_a_forged_offer_is_heard_as_any(self):
        offer = self.yard.twin().do(("act", "ann"))[0][2]
        self.do("forge", 1, 1, offer)
        told = self.do("arrive", 1, 1, 0)
        self.assertEqual(told[0], "say")
        # Ann has said nothing: the reply is of no offer of hers.
        self.assertIsNone(self.do("arrive", 1, 0, 0))

    def test_ends(self):
        self.talk(1, "ann", 0)
        ends = self.yard.member("bob").ends(self.yard.pools())
        self.assertEqual(ends[0][0], "post")
        told = self.do("ends", "ann")
        self.assertEqual(told, [ends[0], ("leave", 2)])
        self.assertEqual([pool[4:] for pool in self.yard.pools().values()], [("closing", 5), ("closing", 5)])
        self.assertEqual(self.yard.pools()[1][3], ends[0][1][0])
        self.assertEqual(self.do("ends", "ann"), [])
        self.assertEqual(self.do("ends", "bob"), [])
        self.assertEqual(self.do("tick", 5), ([], [(1, "ann", 30), (1, "bob", 20), (2, "cid", 30), (2, "ann", 20)]))
        self.assertEqual([self.yard.worth(name) for name in NAMES], [(100, 0, 0)] * 4)

    def test_what_the_court_refuses_is_passed_by(self):
        """Both answer a leave by the same state: the second post is too late; and both show one secret."""
        self.talk(1, "ann", 0)
        self.do("leave", 1)
        first, second = [self.yard.twin().do(("act", name)) for name in ("ann", "bob")]
        self.assertEqual(first[0], second[0])
        self.assertEqual((first[0][0], first[0][1][0][:3]), ("post", ("state", 1, 1)))
        self.assertEqual(self.do("act", "ann")[0][0], "post")
        self.assertEqual(self.yard.pools()[1][3][2], 1)
        self.assertEqual(self.do("act", "bob"), [])
        # A member of two pools by one lock tells its show twice; it stands by the first time.
        yard = self.yard = entered(amount=100)
        for pool in (1, 2):
            self.do("found", "ann", "bob", 50, 10, 5)
            self.do("wish", "ann", ("send", pool, 5, LOCKS[0], 9))
        self.do("wish", "bob", ("take", "open"))
        self.do("act", "ann")
        for pool in (1, 2):
            self.do("arrive", pool, 1, 0)
            self.do("arrive", pool, 0, 0)
        self.do("tick", 7)
        told = self.do("act", "bob")
        self.assertEqual(told[:2], [("show", "open"), ("show", "open")])
        self.assertEqual(yard.board(), {"open": 7})

    def test_a_post_that_is_refused_changes_nothing_and_the_rest_is_done(self):
        self.talk(1, "ann", 0)
        state = self.yard.member("ann").ends(self.yard.pools())[0][1]
        self.do("leave", 1)
        self.do("leave", 2)
        twin = self.yard.twin()
        twin.do(("post", state))
        self.kept(twin, Done, {"number": 1}, ("post", state))
        self.do("act", "bob")
        self.assertEqual(self.yard.pools(), twin.pools())


class AtCourt(YardCase):

    def setUp(self):
        self.yard = entered(amount=100)
        self.yard.do(("found", "ann", "bob", 30, 20, 5))

    def test_post_by_anybody(self):
        state = ("state", 1, 3, 25, 20, ((1, 0, 5, LOCKS[0], 9),))
        right = sealed(state, ("anns", "bobs"))
        for thing in [*ODD, list(right), right[:2], (*right, 0), (state, right[2]), (("state", 1, 0, 30, 20, ()), 1, 1)]:
            self.kept(self.yard, NoState, {}, ("post", thing))
        self.kept(self.yard, NoPool, {"number": 2}, ("post", sealed(("state", 2, 3, 30, 20, ()), ("anns", "bobs"))))
        self.kept(self.yard, NoState, {}, ("post", sealed(("state", 1, 3, 30, 21, ()), ("anns", "bobs"))))
        self.kept(self.yard, NoSeal, {}, ("post", sealed(state, ("bobs", "anns"))))
        self.kept(self.yard, NoSeal, {}, ("post", (state, right[1], right[2] + 1)))
        self.assertIsNone(self.yard.do(("post", right)))
        self.assertEqual(self.yard.pools()[1], ("ann", "bob", 5, state, "closing", 5))
        self.kept(self.yard, Done, {"number": 1}, ("post", right))
        self.kept(self.yard, Done, {"number": 1}, ("leave", 1))
        self.assertEqual(self.yard.do(("tick", 5)), ([], [(1, "ann", 25), (1, "bob", 20)]))
        self.assertEqual(self.yard.pools()[1][3:], (state, "closed", 5))
        self.kept(self.yard, Done, {"number": 1}, ("post", sealed(("state", 1, 9, 30, 20, ()), ("anns", "bobs"))))
        self.assertIsNone(self.yard.do(("show", "open")))
        self.assertEqual(self.yard.do(("tick", 1)), ([], [(1, "bob", 5)]))
        self.assertEqual(self.yard.pools(), {})

    def test_leave(self):
        for number in [*NOT_NUMBERS, 0, 2, -1]:
            self.kept(self.yard, NoPool, {"number": number}, ("leave", number))
        self.assertIsNone(self.yard.do(("leave", 1)))
        self.kept(self.yard, Done, {"number": 1}, ("leave", 1))

    def test_agree(self):
        right = closing_seals(1, 9, 41, ("anns", "bobs"))
        for number in [*NOT_NUMBERS, 0, 2]:
            self.kept(self.yard, NoPool, {"number": number}, ("agree", number, None, None, None))
        for x, y in ((9, 42), (9, 40), (True, 49), (-1, 51), (None, 50), (50, None)):
            self.kept(self.yard, NoAmount, {}, ("agree", 1, x, y, None))
        for seals in (None, [], right[:1], [*right, 1], right[::-1], [right[0], right[1] + 1], [right[0], None], {}, "seals"):
            self.kept(self.yard, NoSeal, {}, ("agree", 1, 9, 41, seals))
        for seals in (right, tuple(right)):
            twin = self.yard.twin()
            self.assertIsNone(twin.do(("agree", 1, 9, 41, seals)))
            self.assertEqual((twin.worth("ann"), twin.worth("bob"), twin.pools()), ((79, 0, 0), (121, 0, 0), {}))
            self.assertEqual(repr(twin.deeds()[-1]), repr(("agree", 1, 9, 41, tuple(right))))
        self.yard.do(("leave", 1))
        self.assertIsNone(self.yard.do(("agree", 1, 9, 41, right)))
        right.clear()
        self.assertEqual(len(self.yard.deeds()[-1][4]), 2)

    def test_show(self):
        for secret in NOT_SECRETS:
            self.kept(self.yard, NoSeal, {}, ("show", secret))
        self.yard.do(("tick", 3))
        for secret in ("b", "a", "z" * 20):
            self.assertIsNone(self.yard.do(("show", secret)))
        self.yard.do(("tick", 1))
        self.assertIsNone(self.yard.do(("show", "b")))
        self.assertEqual(list(self.yard.board().items()), [("a", 3), ("b", 3), ("z" * 20, 3)])


class Ticks(YardCase):

    def test_all_go_on_at_once(self):
        yard = entered(amount=100)
        yard.do(("hold", "ann", "bob", 9, 4))
        yard.do(("hold", "ann", "bob", 8, 3))
        yard.do(("hold", "ann", "bob", 7, 5))
        yard.do(("found", "ann", "bob", 10, 20, 4))
        yard.do(("leave", 4))
        yard.do(("order", ("order", "ann", "bob", 5, 0, 0, 4)))
        rows = len(yard.ledger())
        told = yard.do(("tick", 4))
        self.assertEqual(repr(told), repr(([2, 1], [(4, "ann", 10), (4, "bob", 20)])))
        self.assertEqual((yard.now(), yard.clearing().now(), yard.clearing().queue(), list(yard.holds()), yard.pools()), (4, 4, {}, [3], {}))
        self.assertEqual([word for word, _ in yard.ledger().rows()[rows:]], ["share"] * 3)
        self.assertEqual([changes[0] for _, changes in yard.ledger().rows()[rows:]], [(2, -8), (1, -9), (4, -30)])

    def test_from_one_to_a_hundred(self):
        yard = Yard(digest)
        for n in [*NOT_COUNTS, 101, 10 ** 39]:
            self.kept(yard, NoTime, {"time": n}, ("tick", n))
        self.assertEqual([yard.do(("tick", n)) for n in (1, 100, 2)], [([], [])] * 3)
        self.assertEqual((yard.now(), yard.clearing().now()), (103, 103))


class Told(YardCase):

    def test_the_log(self):
        yard = Yard(digest)
        due = []
        for k, deed in enumerate((("enter", "ann", "anns"), ("enter", "ann", "anns"), None, ("put", "ann", 5), ("take", "ann", 6), [], ("tick", 0)), 1):
            try:
                yard.do(deed)
            except YardError:
                pass
            due += [("begin", k), ("end", k)]
            self.assertEqual(repr(yard.log()), repr(due))
        for k, deeds in enumerate(([("put", "ann", 5), ("put", "ann", 6)], [], None, [("put", "ann", 5), ("take", "ann", 99)]), 8):
            try:
                yard.all_done(deeds)
            except NoDeed:
                pass
            due += [("begin", k), ("end", k)]
            self.assertEqual(yard.log(), due)
        twin = yard.twin()
        self.assertEqual(twin.log(), due)
        twin.do(("tick", 1))
        self.assertEqual((twin.log(), yard.log()), ([*due, ("begin", 12), ("end", 12)], due))
        self.assertEqual(led(digest, yard.deeds()).log(), [("begin", 1), ("end", 1)])

    def test_the_log_amid_a_deed(self):
        logs = []
        yard = Yard(lambda text: logs.append(yard.log()) or digest(text))
        for name in ("ann", "bob"):
            yard.do(("enter", name, KEYS[name]))
            yard.do(("put", name, 5))
        yard.do(("found", "ann", "bob", 5, 5, 5))
        yard.do(("act", "ann"))
        self.assertEqual(logs[-1], [*[pair for k in range(1, 6) for pair in (("begin", k), ("end", k))], ("begin", 6)])

    def test_the_deeds(self):
        yard = entered(names=("ann", "bob"))
        deeds = [("enter", "ann", "anns"), ("put", "ann", 1000), ("enter", "bob", "bobs"), ("put", "bob", 1000)]
        self.assertEqual(yard.deeds(), deeds)
        for deed in (("put", "ann", 0), None, ("act", "zoe")):
            with self.assertRaises(YardError):
                yard.do(deed)
        self.assertEqual(yard.deeds(), deeds)
        yard.all_done([("act", "ann"), ("tick", 5)])
        self.assertEqual(yard.deeds(), [*deeds, ("act", "ann"), ("tick", 5)])

    def test_what_is_told_is_the_askers_own(self):
        yard = entered()
        yard.do(("found", "ann", "bob", 5, 5, 5))
        yard.do(("hold", "ann", "bob", 5, 5))
        yard.do(("show", "open"))
        yard.do(("order", ("order", "ann", "bob", 5, 0, 0, 9)))
        yard.do(("round", "great"))[0].clear()
        yard.do(("order", ("order", "ann", "bob", 5, 0, 3, 9)))
        yard.do(("act", "ann")).clear()
        yard.all_done([("tick", 1)]).clear()
        yard.do(("tick", 1))[0].append(5)
        before = stands(yard)
        for told in (yard.log(), yard.deeds(), yard.holds(), yard.pools(), yard.board(), yard.line(1, 1), yard.clearing().rounds(), yard.clearing().queue(), yard.member("ann").ends(yard.pools())):
            self.assertTrue(told)
            told.clear()
        self.assertEqual(stands(yard), before)

    def test_ledger_clearing_and_member_stay_the_same_ones(self):
        yard = entered()
        ledger, clearing, ann = yard.ledger(), yard.clearing(), yard.member("ann")
        yard.do(("put", "ann", 5))
        yard.do(("order", ("order", "ann", "bob", 5, 0, 0, 9)))
        yard.do(("found", "ann", "bob", 5, 5, 5))
        yard.all_done([("wish", "ann", ("take", "open")), ("tick", 1)])
        self.assertEqual((ledger.free("ann"), list(clearing.queue()), clearing.now(), ann.knows(), ann.ends(yard.pools())), (1000, [1], 1, ["open"], [("leave", 1)]))
        self.assertEqual(ann.sure(yard.pools(), yard.board(), yard.now()), 5)

    def test_no_name_and_no_pool(self):
        yard = entered()
        yard.do(("found", "ann", "bob", 5, 5, 5))
        for name in [*NOT_NAMES, "zoe"]:
            self.refused(NoName, {"name": name}, yard.member, name)
            self.refused(NoName, {"name": name}, yard.worth, name)
        for pool in [*NOT_NUMBERS, 0, 2, -1, 10 ** 39]:
            self.refused(NoPool, {"number": pool}, yard.line, pool, 0)
            self.refused(NoPool, {"number": pool}, yard.line, pool, None)
        for party in [*NOT_NUMBERS, 2, -1, 10 ** 39]:
            self.refused(NoPool, {"number": 1}, yard.line, 1, party)
        self.assertEqual(yard.line(party=1, pool=1), [])
        self.assertEqual(yard.worth(name="ann"), (995, 0, 5))
        self.assertEqual(yard.member(name="ann").knows(), [])

    def test_tree(self):
        yard = Yard(digest)
        self.refused(NoTree, {}, yard.tree)
        yard = entered()
        yard.do(("hold", "ann", "bob", 5, 5))
        tree = Tree({"ann": 995, "bob": 1000, "cid": 1000, "dan": 1000}, digest)
        self.assertEqual(yard.tree().root(), tree.root())
        self.assertEqual([yard.tree().share(name) for name in NAMES], [tree.share(name) for name in NAMES])
        yard.do(("tick", 5))
        self.assertEqual(yard.tree().root()[1], 4000)

    def test_a_tree_of_more_accounts_than_it_takes(self):
        yard = Yard(digest)
        for at in range(65):
            name = "n" + "abcdefghijklm"[at // 8] + "abcdefgh"[at % 8]
            yard.do(("enter", name, name))
            if at == 63:
                self.assertEqual(yard.tree().root()[1], 0)
        self.refused(NoTree, {}, yard.tree)

    def test_handed_in_and_changed_later(self):
        yard = entered()
        yard.do(("found", "ann", "bob", 5, 5, 5))
        seals = closing_seals(1, 4, 6, ("anns", "bobs"))
        deeds = [("agree", 1, 4, 6, seals)]
        twin = yard.twin()
        twin.all_done(deeds)
        yard.do(deeds[0])
        deeds.clear()
        seals[0] = 5
        for each in (yard, twin):
            self.assertEqual(each.deeds()[-1][4], tuple(closing_seals(1, 4, 6, ("anns", "bobs"))))


class AllDone(YardCase):

    def test_what_each_tells(self):
        yard = Yard(digest)
        told = yard.all_done(deeds=[
            ("enter", "ann", "anns"), ("enter", "bob", "bobs"), ("put", "ann", 50), ("order", ("order", "ann", "bob", 5, 0, 0, 9)), ("round", "great"),
            ("hold", "ann", "bob", 5, 1), ("found", "ann", "bob", 5, 5, 5), ("act", "ann"), ("arrive", 2, 1, 0), ("arrive", 2, 0, 0), ("tick", 1),
        ])
        one = Yard(digest)
        self.assertEqual(repr([one.do(deed) for deed in yard.deeds()]), repr(told))
        self.assertEqual(told[:7], [None, None, None, 1, ([1], ()), 1, 2])
        self.assertEqual(told[-2:], ["agreed", ([1], [])])
        self.assertEqual(stands(one), stands(yard))
        self.assertEqual((yard.all_done([]), yard.all_done(())), ([], []))
        self.assertEqual(yard.all_done((("tick", 1), ("tick", 2))), [([], []), ([], [])])

    def refuse(self, yard, at, deeds):
        before, log = stands(yard), yard.log()
        self.refused(NoDeed, {"at": at}, yard.all_done, deeds)
        self.assertEqual(stands(yard), before)
        k = len(log) // 2 + 1
        self.assertEqual(yard.log(), [*log, ("begin", k), ("end", k)])

    def test_all_or_none(self):
        yard = entered()
        good = [("put", "ann", 5), ("found", "ann", "bob", 5, 5, 5), ("wish", "ann", ("pay", 1, 5)), ("act", "ann"), ("arrive", 1, 1, 0), ("enter", "zoe", "zoes"), ("tick", 5)]
        for at in range(len(good) + 1):
            for bad in (None, ("put", "zed", 5), ("put", "ann", 0), ("tick", 0), ("arrive", 1, 0, 7), ("arrive", 9, 0, 0), ("arrive", 1, 2, 0), ["tick", 1], ("act", "yan"), ("round", "so")):
                self.refuse(yard, at, [*good[:at], bad, *good[at:]])
        self.refuse(yard, 0, [None, None])
        self.refuse(yard, 1, [("tick", 1), None, None])
        self.assertEqual(len(yard.all_done(good)), 7)

    def test_no_list(self):
        yard = entered()
        for thing in [*ODD, 0, {"deed": ("tick", 1)}, "tick"]:
            if not isinstance(thing, (list, tuple)):
                self.refuse(yard, 0, thing)
        self.refuse(yard, 0, ("tick", 1))

    def test_led(self):
        yard = entered()
        yard.do(("found", "ann", "bob", 5, 5, 5))
        yard.do(("act", "ann"))
        other = led(digest, yard.deeds())
        self.assertEqual(stands(other), stands(yard))
        self.assertEqual(other.log(), [("begin", 1), ("end", 1)])
        for thing in (None, 5, "", {}, True):
            self.refused(NoDeed, {"at": 0}, led, digest, thing)
        self.refused(NoDeed, {"at": 3}, led, digest, [*yard.deeds()[:3], ("put", "ann", 0)])


class Twins(YardCase):

    def test_goes_on_by_itself(self):
        yard = entered()
        yard.do(("found", "ann", "bob", 50, 50, 5))
        yard.do(("found", "bob", "cid", 50, 50, 5))
        for row in (("send", 1, 10, LOCKS[0], 30), ("pay", 1, 5)):
            yard.do(("wish", "ann", row))
        yard.do(("wish", "bob", ("hand", 1, 2, LOCKS[0], 9)))
        yard.do(("order", ("order", "ann", "bob", 5, 0, 0, 9)))
        yard.do(("hold", "ann", "bob", 5, 9))
        yard.do(("show", "shut"))
        yard.do(("act", "ann"))
        before = stands(yard)
        twin = yard.twin()
        self.assertEqual((stands(twin), twin.log()), (before, yard.log()))
        for deed in (
            ("arrive", 1, 1, 0), ("act", "bob"), ("arrive", 2, 1, 0), ("arrive", 1, 0, 0), ("wish", "cid", ("take", "open")), ("enter", "zoe", "zoes"), ("put", "ann", 5),
            ("show", "third"), ("round", "great"), ("claim", 3, 5), ("tick", 1), ("leave", 1), ("forge", 2, 0, 7), ("found", "zoe", "ann", 0, 5, 5),
        ):
            twin.do(deed)
            self.assertEqual(stands(yard), before)
        again = stands(twin)
        for deed in (("act", "bob"), ("put", "bob", 1), ("lose", 1, 1, 0), ("tick", 2), ("show", "open"), ("wish", "ann", ("take", "fourth"))):
            yard.do(deed)
            self.assertEqual(stands(twin), again)

    def test_wishes_and_what_was_handed_on_are_its_own(self):
        yard = entered()
        yard.do(("found", "ann", "bob", 50, 50, 5))
        yard.do(("found", "bob", "cid", 50, 50, 5))
        yard.do(("wish", "ann", ("send", 1, 10, LOCKS[0], 30)))
        for _ in range(2):
            yard.do(("wish", "bob", ("hand", 1, 2, LOCKS[0], 9)))
        for deed in (("act", "ann"), ("arrive", 1, 1, 0)):
            yard.do(deed)
        twin = yard.twin()
        for each in (yard, twin, twin.twin()):
            self.assertEqual([thing[2][2][0] for thing in each.do(("act", "bob"))], ["pass", "give"])
            each.do(("arrive", 2, 1, 0))
            each.do(("arrive", 2, 0, 0))
            each.do(("act", "cid"))
            each.do(("arrive", 2, 0, 0))
            # The one promise was handed on: the second wish finds none.
            self.assertEqual([thing[2][2][0] for thing in each.do(("act", "bob"))], ["pass", "pass"])

    def test_a_chain_of_twins(self):
        yard = entered()
        yard.do(("found", "ann", "bob", 50, 50, 5))
        for _ in range(1200):
            yard = yard.twin()
        self.assertEqual(yard.do(("act", "ann"))[0][0], "say")


class Digests(YardCase):

    def test_errors_pass_on_and_change_nothing_but_the_log(self):
        asked = Asked()
        yard = entered(asked)
        deeds = [
            ("found", "ann", "bob", 50, 50, 5), ("found", "bob", "cid", 50, 50, 5), ("wish", "ann", ("send", 1, 10, LOCKS[0], 30)),
            ("wish", "bob", ("hand", 1, 2, LOCKS[0], 9)), ("wish", "cid", ("take", "open")), ("act", "ann"), ("arrive", 1, 1, 0), ("arrive", 1, 0, 0), ("act", "bob"),
            ("arrive", 2, 1, 0), ("arrive", 2, 0, 0), ("tick", 1), ("act", "cid"), ("arrive", 2, 0, 0), ("copy", 2, 1, 0), ("act", "bob"), ("leave", 1), ("act", "bob"),
            ("tick", 4), ("act", "ann"), ("show", "open"), ("tick", 1), ("ends", "bob"), ("ends", "cid"), ("tick", 9),
        ]
        most = 0
        for deed in deeds:
            log = len(yard.log())
            many, _ = self.spoiled_at_each(asked, lambda: seen(yard), yard.do, deed)
            self.assertEqual(len(yard.log()) - log, 2 * (many + 1))
            most = max(most, many)
        self.assertGreater(most, 2)
        self.assertEqual(yard.log(), [pair for k in range(1, len(yard.log()) // 2 + 1) for pair in (("begin", k), ("end", k))])
        self.assertEqual([yard.worth(name)[0] for name in NAMES], [990, 1001, 1009, 1000])
        self.assertEqual(yard.pools(), {})

    def test_of_all_done_and_led(self):
        asked = Asked()
        yard = entered(asked)
        deeds = [("found", "ann", "bob", 50, 50, 5), ("put", "ann", 5), ("act", "ann"), ("arrive", 1, 1, 0), ("arrive", 1, 0, 0), ("act", "bob")]
        many, _ = self.spoiled_at_each(asked, lambda: seen(yard), yard.all_done, deeds)
        self.assertGreater(many, 4)
        self.assertEqual(len(yard.deeds()), 14)
        asked.left = 2
        with self.assertRaises(Spoiled):
            led(asked, yard.deeds())

    def test_errors_that_are_refusals_by_class_alone(self):
        """An error of the digest passes on, though it is of a class that a refusal has."""
        for error in (NoDeed(5), NoState(), YardError(), ValueError(), Done(1), KeyError("x"), LookupError()):
            broken = []

            def told(text):
                if broken:
                    raise error
                return digest(text)
            yard = entered(told)
            yard.do(("found", "ann", "bob", 50, 50, 5))
            yard.do(("act", "ann"))
            yard.do(("arrive", 1, 1, 0))
            yard.do(("leave", 1))
            # Bob's answer is a post, of which the court asks the digest: it is none that the court refuses.
            before = seen(yard)
            broken.append(True)
            for deeds in (None, [("put", "ann", 5), ("act", "bob")]):
                with self.assertRaises(error.__class__) as caught:
                    yard.do(("act", "bob")) if deeds is None else yard.all_done(deeds)
                self.assertIs(caught.exception, error)
            with self.assertRaises(NoDeed) as caught:
                yard.all_done([("put", "ann", 5), ("put", "zoe", 5)])
            self.assertEqual(caught.exception.at, 1)
            broken.clear()
            self.assertEqual(seen(yard), before)
            self.assertEqual(yard.do(("act", "bob"))[0][0], "post")
            self.assertEqual(yard.pools()[1][3][2], 1)


if __name__ == "__main__":
    unittest.main()

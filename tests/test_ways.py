"""[100], [2] (e): edges, ways, the cheapest one, and the judge of it."""

import copy
import random

import unittest

from clearyard.errors import NoWay
from clearyard.ways import cheapest, fee, shows_cheapest
from things import MOST, NOT_AMOUNTS, NOT_LISTS, NOT_NAMES, NOT_NUMBERS, ODD, Case


def all_ways(edges, one, payee, amount, barred=()):
    """All ways from one to payee without a name twice, each with what goes over its edges, room looked at."""
    if one == payee:
        return [[]]
    ways = []
    for edge in edges:
        if edge[0] == one and edge[1] not in barred:
            for rest in all_ways(edges, edge[1], payee, amount, (*barred, one)):
                over = amount
                if rest:
                    after = [each for each in edges if each[:2] == rest[0][:2]][0]
                    over = rest[0][2] + after[3] + rest[0][2] * after[4] // 1000
                if over <= edge[2]:
                    ways.append([(one, edge[1], over), *rest])
    return ways


def must_come(edges, name, payer, payee, amount):
    """The least that must come to name, by all its ways, None where there is none."""
    if name == payee:
        return amount
    needs = []
    for way in all_ways(edges, name, payee, amount, (payer,)):
        first = [each for each in edges if each[:2] == way[0][:2]][0]
        needs.append(way[0][2] + first[3] + way[0][2] * first[4] // 1000)
    return min(needs, default=None)


def needs_by_search(edges, payer, payee, amount):
    names = sorted({payee, *[edge[0] for edge in edges]} - {payer})
    needs = {name: must_come(edges, name, payer, payee, amount) for name in names}
    return {name: need for name, need in needs.items() if need is not None}


def some_edges(chance, many, names):
    pairs = [(one, other) for one in names for other in names if one != other]
    edges = []
    for one, other in chance.sample(pairs, min(many, len(pairs))):
        room = chance.choice((0, 5, 9, 10, 11, 20, 50, MOST))
        edges.append((one, other, room, chance.choice((0, 0, 1, 2, 5)), chance.choice((0, 0, 100, 500, 1000))))
    return edges


def unlike(edges):
    return len({edge[:2] for edge in edges}) == len(edges)


class Fee(Case):

    def test_base_and_rate(self):
        for base, rate, k, told in (
            (0, 0, MOST, 0), (7, 0, 5, 7), (0, 1, 999, 0), (0, 1, 1000, 1), (0, 1, 1999, 1), (0, 1, 2000, 2), (3, 1, 1000, 4), (0, 1000, 5, 5),
            (0, 500, 1, 0), (0, 500, 2, 1), (0, 999, 1, 0), (0, 999, 1001, 999), (0, 999, 1002, 1000), (MOST, 1000, MOST, 2 * MOST), (2, 3, 0, 2),
        ):
            self.assertEqual(fee(("ann", "bob", 5, base, rate), k), told)
            self.assertEqual(fee(k=k, edge=("ann", "bob", MOST, base, rate)), told)


class Cheapest(Case):

    def right(self, edges, payer, payee, amount):
        """What is told, held against a search through all ways."""
        before = copy.deepcopy(edges)
        told = cheapest(edges, payer, payee, amount)
        self.assertEqual(edges, before)
        self.assertEqual((told.__class__, len(told)), (tuple, 2))
        way, needs = told
        self.assertEqual(repr(needs), repr(needs_by_search(edges, payer, payee, amount)))
        ways = all_ways(edges, payer, payee, amount)
        if not ways:
            self.assertIsNone(way)
        else:
            self.assertIn(repr(way), [repr(each) for each in ways])
            self.assertEqual(way[0][2], min(each[0][2] for each in ways))
        self.assertIs(shows_cheapest(edges, payer, payee, amount, told), True)
        return told

    def test_one_edge(self):
        edges = [("ann", "bob", 10, 5, 1000)]
        self.assertEqual(self.right(edges, "ann", "bob", 10), ([("ann", "bob", 10)], {"bob": 10}))
        self.assertEqual(self.right(edges, "ann", "bob", 11), (None, {"bob": 11}))
        self.assertEqual(self.right(edges, "bob", "ann", 10), (None, {"ann": 10}))
        self.assertEqual(self.right(edges, "cid", "bob", 10), (None, {"ann": 25, "bob": 10}))
        self.assertEqual(self.right([], "ann", "bob", MOST), (None, {"bob": MOST}))
        self.assertEqual(self.right((), "ann", "bob", 1), (None, {"bob": 1}))

    def test_fees_of_the_edges_behind_the_first(self):
        edges = [("ann", "bob", 100, 50, 1000), ("bob", "cid", 100, 2, 100), ("cid", "dan", 100, 1, 200)]
        # 20 over the last; 20 + 1 + 4 over the one ahead; 25 + 2 + 2 over the first, which asks nothing of ann.
        way = [("ann", "bob", 29), ("bob", "cid", 25), ("cid", "dan", 20)]
        self.assertEqual(self.right(edges, "ann", "dan", 20), (way, {"bob": 29, "cid": 25, "dan": 20}))
        self.assertEqual(list(cheapest(edges, "ann", "dan", 20)[1]), ["bob", "cid", "dan"])

    def test_room_of_just_what_goes_over(self):
        for rooms, there in (((29, 25, 20), True), ((28, 25, 20), False), ((29, 24, 20), False), ((29, 25, 19), False)):
            edges = [("ann", "bob", rooms[0], 50, 1000), ("bob", "cid", rooms[1], 2, 100), ("cid", "dan", rooms[2], 1, 200)]
            self.assertEqual(self.right(edges, "ann", "dan", 20)[0] is not None, there)
        # There bob's need is told though ann has no room to it.
        edges = [("ann", "bob", 28, 50, 1000), ("bob", "cid", 25, 2, 100), ("cid", "dan", 20, 1, 200)]
        self.assertEqual(self.right(edges, "ann", "dan", 20), (None, {"bob": 29, "cid": 25, "dan": 20}))

    def test_a_dearer_way_where_the_cheaper_has_no_room(self):
        edges = [("ann", "bob", 30, 0, 0), ("bob", "dan", 9, 0, 0), ("bob", "cid", 30, 1, 0), ("cid", "dan", 30, 1, 0)]
        self.assertEqual(self.right(edges, "ann", "dan", 9)[0], [("ann", "bob", 9), ("bob", "dan", 9)])
        self.assertEqual(self.right(edges, "ann", "dan", 10)[0], [("ann", "bob", 12), ("bob", "cid", 11), ("cid", "dan", 10)])

    def test_by_what_goes_over_the_first_edge_not_by_how_many(self):
        edges = [("ann", "eve", 50, 0, 0), ("eve", "dan", 50, 9, 0), ("ann", "bob", 50, 0, 0), ("bob", "cid", 50, 1, 0), ("cid", "dan", 50, 1, 0)]
        self.assertEqual(self.right(edges, "ann", "dan", 5)[0], [("ann", "bob", 7), ("bob", "cid", 6), ("cid", "dan", 5)])

    def test_not_by_payer(self):
        edges = [("bob", "ann", 50, 0, 0), ("ann", "cid", 50, 0, 0), ("dan", "bob", 50, 0, 0)]
        self.assertEqual(self.right(edges, "ann", "cid", 5), ([("ann", "cid", 5)], {"cid": 5}))
        self.assertEqual(self.right(edges, "dan", "cid", 5)[1], {"ann": 5, "bob": 5, "cid": 5})

    def test_edges_from_payee_and_to_payer(self):
        edges = [("cid", "bob", 50, 0, 0), ("bob", "cid", 50, 3, 0), ("bob", "ann", 50, 0, 0), ("cid", "ann", 50, 0, 0), ("ann", "bob", 50, 0, 0)]
        self.assertEqual(self.right(edges, "ann", "cid", 5), ([("ann", "bob", 8), ("bob", "cid", 5)], {"bob": 8, "cid": 5}))

    def test_rings_without_fees(self):
        names = ("bob", "cid", "dan", "eve")
        ring = [(one, other, 50, 0, 0) for one in names for other in names if one != other]
        edges = [*ring, ("ann", "bob", 50, 0, 0), ("eve", "fay", 50, 0, 0)]
        way, needs = self.right(edges, "ann", "fay", 5)
        self.assertEqual((way[0], way[-1]), (("ann", "bob", 5), ("eve", "fay", 5)))
        self.assertEqual(needs, dict.fromkeys(("bob", "cid", "dan", "eve", "fay"), 5))
        self.assertEqual(self.right([*ring, ("ann", "bob", 50, 0, 0)], "ann", "fay", 5), (None, {"fay": 5}))

    def test_forty_edges_and_a_long_road(self):
        names = ["n" + sign + other for sign in "abcdefg" for other in "abcdef"][:41]
        edges = [(one, other, MOST, 1, 0) for one, other in zip(names, names[1:])]
        self.assertEqual(len(edges), 40)
        way, needs = cheapest(edges, names[0], names[-1], 7)
        self.assertEqual(way, [(one, other, 7 + 39 - at) for at, (one, other) in enumerate(zip(names, names[1:]))])
        self.assertEqual(needs, {name: 7 + 40 - at for at, name in enumerate(names) if at > 0})
        self.assertTrue(shows_cheapest(edges, names[0], names[-1], 7, (way, needs)))
        twice = [(one, other, MOST, 0, 1000) for one, other, _, _, _ in edges]
        way, needs = cheapest(twice, names[0], names[-1], 1)
        self.assertIsNone(way)
        self.assertEqual(sorted(needs.values()), [2 ** at for at in range(31)])
        self.assertTrue(shows_cheapest(twice, names[0], names[-1], 1, (way, needs)))
        self.refused(NoWay, {}, cheapest, [*edges, (names[0], "z", 1, 0, 0)], names[0], names[-1], 7)
        self.refused(NoWay, {}, shows_cheapest, [*edges, (names[0], "z", 1, 0, 0)], names[0], names[-1], 7, None)

    def test_drawn_ones_against_all_ways(self):
        there = 0
        for seed in range(2500):
            chance = random.Random(seed)
            names = ["ann", "bob", "cid", "dan", "eve", "fay"][:chance.randint(2, 6)]
            edges = some_edges(chance, chance.randint(0, 14), names)
            payer, payee = chance.sample([*names, "zoe"], 2)
            told = self.right(edges, payer, payee, chance.choice((1, 5, 9, 10, 11)))
            there += told[0] is not None
        self.assertGreater(there, 400)

    def test_what_is_told_is_the_askers_own(self):
        edges = [("ann", "bob", 10, 0, 0)]
        for way, needs in (cheapest(edges, "ann", "bob", 5), cheapest(amount=5, payee="bob", payer="ann", edges=edges)):
            way.clear()
            needs.clear()
        self.assertEqual(cheapest(edges, "ann", "bob", 5), ([("ann", "bob", 5)], {"bob": 5}))
        self.assertEqual(edges, [("ann", "bob", 10, 0, 0)])


class Refused(Case):

    def refuse(self, *parts):
        self.refused(NoWay, {}, cheapest, *parts)
        self.refused(NoWay, {}, shows_cheapest, *parts, (None, {}))

    def test_no_way_of_edges(self):
        right = ("ann", "bob", 10, 0, 0)
        for thing in [*NOT_LISTS, {"ann": right}, right]:
            self.refuse(thing, "ann", "bob", 5)
        for thing in [*ODD, list(right), right[:4], (*right, 0), (right,), ("ann", "ann", 10, 0, 0)]:
            self.refuse([thing], "ann", "bob", 5)
            self.refuse([right, thing], "ann", "bob", 5)
            self.refuse((thing, right), "ann", "bob", 5)
        for name in NOT_NAMES:
            self.refuse([(name, "bob", 10, 0, 0)], "ann", "bob", 5)
            self.refuse([("ann", name, 10, 0, 0)], "ann", "bob", 5)
        for number in [*NOT_NUMBERS, -1, MOST + 1, 10 ** 39]:
            for at in (2, 3, 4):
                self.refuse([(*right[:at], number, *right[at + 1:])], "ann", "bob", 5)
        self.refuse([(*right[:4], 1001)], "ann", "bob", 5)
        for numbers in ((0, 0, 0), (MOST, MOST, 1000)):
            cheapest([("ann", "bob", *numbers)], "ann", "bob", 5)

    def test_no_two_of_the_same_names(self):
        edges = [("ann", "bob", 10, 0, 0), ("bob", "ann", 10, 0, 0), ("bob", "cid", 10, 0, 0)]
        cheapest(edges, "ann", "cid", 5)
        self.refuse([*edges, ("ann", "bob", 10, 0, 0)], "ann", "cid", 5)
        self.refuse([*edges, ("bob", "ann", 9, 1, 1)], "ann", "cid", 5)

    def test_no_way_of_names_and_amounts(self):
        edges = [("ann", "bob", 10, 0, 0)]
        for name in NOT_NAMES:
            self.refuse(edges, name, "bob", 5)
            self.refuse(edges, "ann", name, 5)
        self.refuse(edges, "ann", "ann", 5)
        self.refuse(edges, "zoe", "zoe", 5)
        for amount in NOT_AMOUNTS:
            self.refuse(edges, "ann", "bob", amount)
        for amount in (1, MOST):
            cheapest(edges, "zoe", "yan", amount)

    def test_two_at_once(self):
        for parts in ((None, "ann", "ann", 5), ([], "", "bob", 0), ([None], "ann", "bob", True), ([], "ann", "ann", 0), (None, None, None, None)):
            self.refuse(*parts)


class Shows(Case):

    edges = [
        ("ann", "bob", 50, 9, 9), ("ann", "cid", 50, 0, 0), ("bob", "dan", 50, 2, 0), ("cid", "dan", 50, 2, 0), ("cid", "eve", 50, 1, 0),
        ("dan", "eve", 50, 0, 0), ("eve", "fay", 20, 0, 100), ("dan", "cid", 50, 0, 0), ("bob", "fay", 9, 0, 0), ("fay", "bob", 9, 0, 0),
    ]
    needs = {"bob": 13, "cid": 12, "dan": 11, "eve": 11, "fay": 10}
    way = [("ann", "cid", 12), ("cid", "eve", 11), ("eve", "fay", 10)]

    def shown(self, way, needs, amount=10):
        parts = (self.edges, "ann", "fay", amount, (way, needs))
        before = repr(parts)
        told = shows_cheapest(*parts)
        self.assertEqual(repr(parts), before)
        self.assertIn(told, (True, False))
        self.assertIs(told.__class__, bool)
        return told

    def test_the_told_one(self):
        self.assertEqual(cheapest(self.edges, "ann", "fay", 10), (self.way, self.needs))
        self.assertTrue(self.shown(self.way, self.needs))
        self.assertTrue(shows_cheapest(told=(self.way, self.needs), amount=10, payee="fay", payer="ann", edges=tuple(self.edges)))

    def test_another_as_cheap(self):
        edges = [("ann", "bob", 50, 0, 0), ("ann", "cid", 50, 0, 0), ("bob", "dan", 50, 1, 0), ("cid", "dan", 50, 1, 0), ("bob", "cid", 50, 0, 0)]
        needs = {"bob": 6, "cid": 6, "dan": 5}
        for way in (
            [("ann", "bob", 6), ("bob", "dan", 5)], [("ann", "cid", 6), ("cid", "dan", 5)], [("ann", "bob", 6), ("bob", "cid", 6), ("cid", "dan", 5)],
        ):
            self.assertTrue(shows_cheapest(edges, "ann", "dan", 5, (way, needs)))
        ring = [*edges, ("cid", "bob", 50, 0, 0)]
        around = [("ann", "bob", 6), ("bob", "cid", 6), ("cid", "bob", 6), ("bob", "dan", 5)]
        self.assertFalse(shows_cheapest(ring, "ann", "dan", 5, (around, needs)))

    def test_a_dearer_one(self):
        self.assertFalse(self.shown([("ann", "bob", 13), ("bob", "dan", 11), ("dan", "eve", 11), ("eve", "fay", 10)], self.needs))
        self.assertFalse(self.shown([("ann", "cid", 13), ("cid", "dan", 11), ("dan", "eve", 11), ("eve", "fay", 10)], self.needs))
        # Though the needs are told by just that way.
        self.assertFalse(self.shown([("ann", "cid", 13), ("cid", "dan", 11), ("dan", "eve", 11), ("eve", "fay", 10)], {**self.needs, "cid": 13}))
        # bob to fay has no room of 10.
        self.assertFalse(self.shown([("ann", "bob", 10), ("bob", "fay", 10)], self.needs))

    def test_none_where_there_is_one(self):
        self.assertFalse(self.shown(None, self.needs))
        self.assertFalse(self.shown(None, {"fay": 10}))
        self.assertFalse(self.shown(None, {}))

    def test_one_where_there_is_none(self):
        edges = [("ann", "bob", 9, 0, 0), ("bob", "cid", 10, 0, 0)]
        told = (None, {"bob": 10, "cid": 10})
        self.assertTrue(shows_cheapest(edges, "ann", "cid", 10, told))
        for way in ([("ann", "bob", 10), ("bob", "cid", 10)], [("ann", "bob", 9), ("bob", "cid", 9)], [("bob", "cid", 10)], [("ann", "cid", 10)], [], ()):
            self.assertFalse(shows_cheapest(edges, "ann", "cid", 10, (way, told[1])))

    def test_needs_otherwise(self):
        for name in self.needs:
            self.assertFalse(self.shown(self.way, {each: need for each, need in self.needs.items() if each != name}), name)
            for need in (*NOT_NUMBERS, 0, self.needs[name] + 1, self.needs[name] - 1, -5, 10 ** 39):
                self.assertFalse(self.shown(self.way, {**self.needs, name: need}), name)
        for name in ("ann", "zoe", "Ann", "", 1, None, True, ("ann",)):
            for need in (10, 11, 12, 13, 0):
                self.assertFalse(self.shown(self.way, {**self.needs, name: need}))
                self.assertFalse(self.shown(self.way, {name: need, **self.needs}))
        self.assertFalse(self.shown(self.way, {}))
        backwards = dict(reversed(list(self.needs.items())))
        self.assertEqual(backwards, self.needs)
        self.assertFalse(self.shown(self.way, backwards))
        self.assertFalse(self.shown(self.way, {"cid": 12, "bob": 13, "dan": 11, "eve": 11, "fay": 10}))

    def test_needs_by_truths(self):
        edges = [("ann", "bob", 9, 0, 0)]
        self.assertTrue(shows_cheapest(edges, "ann", "bob", 1, ([("ann", "bob", 1)], {"bob": 1})))
        self.assertFalse(shows_cheapest(edges, "ann", "bob", 1, ([("ann", "bob", 1)], {"bob": True})))
        self.assertFalse(shows_cheapest(edges, "ann", "bob", 1, ([("ann", "bob", True)], {"bob": 1})))

    def test_as_cheap_without_room(self):
        edges = [("ann", "bob", 50, 0, 0), ("ann", "cid", 50, 0, 0), ("bob", "dan", 50, 1, 0), ("cid", "dan", 4, 1, 0), ("dan", "eve", 50, 0, 0)]
        needs = {"bob": 6, "dan": 5, "eve": 5}
        told = ([("ann", "bob", 6), ("bob", "dan", 5), ("dan", "eve", 5)], needs)
        self.assertEqual(cheapest(edges, "ann", "eve", 5), told)
        self.assertTrue(shows_cheapest(edges, "ann", "eve", 5, told))
        self.assertFalse(shows_cheapest(edges, "ann", "eve", 5, ([("ann", "cid", 6), ("cid", "dan", 5), ("dan", "eve", 5)], needs)))
        self.assertFalse(shows_cheapest(edges, "ann", "eve", 5, (told[0], {"bob": 6, "cid": 6, "dan": 5, "eve": 5})))

    def test_a_way_that_ends_or_begins_elsewhere(self):
        edges = [("ann", "bob", 50, 0, 0), ("bob", "cid", 50, 0, 0), ("cid", "dan", 50, 0, 0), ("zoe", "ann", 50, 0, 0)]
        needs, way = {"bob": 5, "cid": 5, "dan": 5}, [("ann", "bob", 5), ("bob", "cid", 5), ("cid", "dan", 5)]
        self.assertTrue(shows_cheapest(edges, "ann", "dan", 5, (way, needs)))
        for other in (way[:1], way[:2], way[1:], way[2:], [("zoe", "ann", 5), *way], [way[0], way[2]], []):
            self.assertFalse(shows_cheapest(edges, "ann", "dan", 5, (other, needs)))

    def test_a_ring_that_stands_by_itself_alone(self):
        """In a ring without fees each name's need may stand by the next one's, with no way to payee by any of it."""
        edges = [("ann", "bob", 9, 0, 0), ("bob", "cid", 9, 0, 0), ("cid", "bob", 9, 0, 0)]
        self.assertTrue(shows_cheapest(edges, "ann", "dan", 5, (None, {"dan": 5})))
        for need in (1, 5, 9):
            self.assertFalse(shows_cheapest(edges[1:], "ann", "dan", 5, (None, {"bob": need, "cid": need, "dan": 5})))
        for need in (1, 4, 5, 6, 9, 10):
            for way in (None, [("ann", "bob", need), ("bob", "dan", 5)]):
                self.assertFalse(shows_cheapest(edges, "ann", "dan", 5, (way, {"bob": need, "cid": need, "dan": 5})))
        dear = [*edges, ("cid", "dan", 9, 3, 0)]
        self.assertTrue(shows_cheapest(dear, "ann", "dan", 5, ([("ann", "bob", 8), ("bob", "cid", 8), ("cid", "dan", 5)], {"bob": 8, "cid": 8, "dan": 5})))
        for need in (5, 6, 7):
            way = [("ann", "bob", need), ("bob", "cid", need), ("cid", "dan", 5)]
            self.assertFalse(shows_cheapest(dear, "ann", "dan", 5, (way, {"bob": need, "cid": need, "dan": 5})))

    def test_ways_otherwise(self):
        for at, step in enumerate(self.way):
            for other in [
                *ODD, 0, step[:2], (*step, 1), list(step), (step[1], step[0], step[2]), (*step[:2], step[2] + 1), (*step[:2], step[2] - 1), (*step[:2], None),
                (*step[:2], str(step[2])), (step[0], "zoe", step[2]), ("zoe", *step[1:]), (None, *step[1:]), (step[0], None, step[2]), (["ann"], *step[1:]),
                (step[0], ["bob"], step[2]), (step[0], {}, step[2]), (step[0], step[2], step[1]),
            ]:
                self.assertFalse(self.shown([*self.way[:at], other, *self.way[at + 1:]], self.needs))
            self.assertFalse(self.shown([*self.way[:at], *self.way[at + 1:]], self.needs))
            self.assertFalse(self.shown([*self.way[:at], step, *self.way[at:]], self.needs))
        self.assertFalse(self.shown(self.way[::-1], self.needs))
        self.assertFalse(self.shown([*self.way, ("fay", "bob", 9)], self.needs))
        for thing in [*ODD, 0, tuple(self.way), {"way": self.way}, "way"]:
            if thing is not None:
                self.assertFalse(self.shown(thing, self.needs))

    def test_of_anything(self):
        told = (self.way, self.needs)
        for thing in [
            *ODD, 0, list(told), told[:1], (*told, None), (told,), told[::-1], (self.way, list(self.needs.items())), (self.way, tuple(self.needs)), {"way": 1},
            (self.way, None), (None, None), (None, []), (self.way, self.way), (self.needs, self.needs),
        ]:
            self.assertIs(shows_cheapest(self.edges, "ann", "fay", 10, thing), False)

    def test_drawn_ones_exchanged(self):
        """Whatever is told is shown just where a search through all ways says so."""
        seen = {True: 0, False: 0}
        for seed in range(400):
            chance = random.Random(seed)
            names = ["ann", "bob", "cid", "dan", "eve"][:chance.randint(2, 5)]
            edges = some_edges(chance, chance.randint(1, 12), names)
            payer, payee = chance.sample(names, 2)
            amount = chance.choice((1, 5, 9, 10))
            ways, needs = all_ways(edges, payer, payee, amount), needs_by_search(edges, payer, payee, amount)
            least = min([way[0][2] for way in ways], default=None)
            for way in [None, *ways]:
                for other in (needs, {**needs, chance.choice(names): chance.randint(1, 12)}):
                    other = {name: other[name] for name in sorted(other)}
                    right = other == needs and (least is None if way is None else way[0][2] == least)
                    self.assertIs(shows_cheapest(edges, payer, payee, amount, (way, other)), right, (seed, way, other))
                    seen[right] += 1
        self.assertGreater(min(seen.values()), 200)


if __name__ == "__main__":
    unittest.main()

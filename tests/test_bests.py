"""[50], [2] (b): the best round, its tree, and the judge of both."""

import copy
import itertools
import random
import time
import unittest

from clearyard.bests import best, shows_best
from clearyard.errors import NoOrders
from things import MOST, NOT_LISTS, NOT_NAMES, NOT_NUMBERS, ODD, Case

NAMES = ("ann", "bob", "cid", "dan")


def pays(payer, payee, amount):
    return ("order", payer, payee, amount, 0, 0, 9)


def has(free, name, comes, goes):
    """What name has when some orders come to it, and some go from it."""
    come = sum(order[3] for order in comes if order[2] == name)
    return free.get(name, 0) + come - sum(order[3] for order in goes if order[1] == name)


def balances(free, orders, places):
    some = [orders[place] for place in places]
    return all(has(free, name, some, some) >= 0 for order in some for name in order[1:3])


def sum_of(orders, places):
    return sum(orders[place][3] for place in places)


def best_by_search(free, orders):
    """The best of all sets that balance, by the words of the point."""
    found = []
    for many in range(len(orders) + 1):
        found += [list(places) for places in itertools.combinations(range(len(orders)), many)]
    found = [places for places in found if balances(free, orders, places)]
    most = max(sum_of(orders, places) for places in found)
    found = [places for places in found if sum_of(orders, places) == most]
    count = max(len(places) for places in found)
    return min(places for places in found if len(places) == count)


def true_leaves(free, orders, told, chosen, left):
    """All leaves that are true where these are chosen and those left to choose."""
    leaves = []
    go, come = [orders[place] for place in chosen], [orders[place] for place in (*chosen, *left)]
    for name in sorted({name for order in orders for name in order[1:3]}):
        if has(free, name, come, go) < 0:
            leaves.append(("short", name))
    reach = [*chosen, *left]
    gap = (sum_of(orders, told) - sum_of(orders, reach), len(told) - len(reach))
    if gap > (0, 0):
        leaves.append(("less",))
    if gap == (0, 0) and reach > told:
        leaves.append(("like",))
    if not left and chosen == told:
        leaves.append(("best",))
    return leaves


def is_tree(free, orders, told, tree, chosen=(), place=0):
    left = list(range(place, len(orders)))
    if tree.__class__ is tuple and len(tree) == 3 and tree[0] == "split" and left:
        if not is_tree(free, orders, told, tree[1], (*chosen, place), place + 1):
            return False
        return is_tree(free, orders, told, tree[2], chosen, place + 1)
    return repr(tree) in map(repr, true_leaves(free, orders, told, list(chosen), left))


def some_tree(chance, free, orders, told, chosen=(), place=0, early=0.5):
    """Some tree with true leaves alone, other than best tells it."""
    left = list(range(place, len(orders)))
    leaves = true_leaves(free, orders, told, list(chosen), left)
    if not left or leaves and chance.random() < early:
        return chance.choice(leaves)
    yes = some_tree(chance, free, orders, told, (*chosen, place), place + 1, early)
    return ("split", yes, some_tree(chance, free, orders, told, chosen, place + 1, early))


def paths(tree, ahead=()):
    """The paths to all nodes of a tree."""
    yield ahead
    if tree[0] == "split":
        yield from paths(tree[1], (*ahead, 1))
        yield from paths(tree[2], (*ahead, 2))


def at(tree, path):
    for step in path:
        tree = tree[step]
    return tree


def exchanged(tree, path, other):
    if not path:
        return other
    return (*tree[:path[0]], exchanged(tree[path[0]], path[1:], other), *tree[path[0] + 1:])


def some(chance, most):
    free = {name: chance.randint(0, 6) for name in NAMES if chance.random() < 0.6}
    orders = [pays(*chance.sample(NAMES, 2), chance.randint(1, 9)) for _ in range(chance.randint(0, most))]
    return free, orders


class Best(Case):

    def is_best(self, free, orders, places):
        before = copy.deepcopy((free, orders))
        told = best(free, orders)
        self.assertEqual((free, orders), before)
        self.assertIs(told.__class__, tuple)
        self.assertEqual([part.__class__ for part in told], [list, tuple])
        self.assertEqual(told[0], places)
        self.assertTrue(is_tree(free, orders, places, told[1]))
        self.assertIs(shows_best(free, orders, told), True)
        self.assertEqual(best(free=free, orders=tuple(orders)), told)
        self.assertIs(shows_best(free=free, orders=tuple(orders), told=told), True)

    def test_none(self):
        self.is_best({}, [], [])
        self.is_best({"ann": 5}, [], [])

    def test_one(self):
        self.is_best({"ann": 5}, [pays("ann", "bob", 5)], [0])
        self.is_best({"ann": 5}, [pays("ann", "bob", 6)], [])
        self.is_best({}, [pays("ann", "bob", 1)], [])
        self.is_best({"ann": 0, "bob": 9}, [pays("ann", "bob", 1)], [])

    def test_rings_that_go_only_together(self):
        ring = [pays("ann", "bob", 7), pays("bob", "cid", 7), pays("cid", "ann", 7)]
        self.is_best({}, ring, [0, 1, 2])
        self.is_best({}, ring[:2], [])
        self.is_best({}, [pays("ann", "bob", 8), *ring[1:]], [])
        self.is_best({}, [pays("ann", "bob", 8), *ring], [1, 2, 3])
        self.is_best({"ann": 1}, [pays("ann", "bob", 8), *ring[1:]], [0, 1, 2])

    def test_the_queues_order_aside(self):
        self.is_best({"ann": 5}, [pays("ann", "bob", 9), pays("ann", "bob", 5)], [1])
        self.is_best({"ann": 9}, [pays("ann", "bob", 5), pays("ann", "bob", 9)], [1])
        self.is_best({"ann": 5}, [("order", "ann", "bob", 5, 9, 3, 4), ("order", "ann", "bob", 5, 0, 0, 1)], [0])

    def test_sum_then_count_then_list(self):
        orders = [pays("ann", "bob", 6), pays("ann", "bob", 4), pays("ann", "bob", 2), pays("ann", "bob", 1)]
        self.is_best({"ann": 6}, orders, [1, 2])
        self.is_best({"ann": 7}, orders, [1, 2, 3])
        self.is_best({"ann": 11}, orders, [0, 1, 3])
        self.is_best({"ann": 6}, [pays("ann", "bob", 3)] * 4, [0, 1])
        self.is_best({"ann": 7}, [pays("ann", "bob", 3)] * 4, [0, 1])
        self.is_best({"ann": 5}, [pays("ann", "bob", 2), *[pays("ann", "bob", 3)] * 2, pays("ann", "bob", 2)], [0, 1])

    def test_one_payer_of_which_only_some_sums_can_be_made(self):
        orders = [pays("ann", "bob", amount) for amount in (7, 11, 13, 17, 19, 23)]
        self.is_best({"ann": 37}, orders, [0, 1, 4])
        self.is_best({"ann": 6}, orders, [])
        self.is_best({"ann": 12}, orders, [1])
        self.is_best({"ann": 89}, orders, [1, 2, 3, 4, 5])
        self.is_best({"ann": 90}, orders, [0, 1, 2, 3, 4, 5])

    def test_names_that_free_has_not(self):
        self.is_best({"ann": 5}, [pays("bob", "cid", 5), pays("ann", "bob", 5)], [0, 1])
        self.is_best({"zoe": 5}, [pays("bob", "cid", 5)], [])

    def test_against_a_search_through_all_sets(self):
        kinds = set()
        for seed in range(300):
            free, orders = some(random.Random(seed), 8)
            places = best_by_search(free, orders)
            self.is_best(free, orders, places)
            kinds.add((len(places) > 0, len(places) < len(orders)))
        self.assertEqual(len(kinds), 4)

    def test_against_a_search_where_many_are_alike(self):
        for seed in range(150):
            chance = random.Random(seed)
            free = {name: chance.randint(0, 3) for name in NAMES[:3]}
            orders = [pays(*chance.sample(NAMES[:3], 2), chance.choice((1, 2, 2, 3))) for _ in range(8)]
            self.is_best(free, orders, best_by_search(free, orders))

    def test_twelve(self):
        ring = [pays(name, "abcdefghijkla"[place + 1], MOST) for place, name in enumerate("abcdefghijkl")]
        self.is_best({}, ring, list(range(12)))
        self.is_best({}, ring[:11], [])
        self.is_best({"ann": 10 ** 39}, [pays("ann", "bob", MOST)] * 12, list(range(12)))
        for seed in range(3):
            free, orders = {}, []
            chance = random.Random(seed)
            while len(orders) < 12:
                free, orders = some(chance, 12)
            self.is_best(free, orders, best_by_search(free, orders))

    def test_in_a_moment(self):
        for free, orders in (
            ({"ann": 12 * 10 ** 8 // 2}, [pays("ann", "bob", 10 ** 8 + 2 ** place) for place in range(12)]),
            ({"ann": 11}, [pays("ann", "bob", 2)] * 12), ({"ann": 6}, [pays("ann", "bob", 1)] * 12),
            ({}, [pays(*"ab", 5), pays(*"bc", 6)] * 6), ({"a": 5}, [pays(*"ab", 5), pays(*"bc", 6)] * 6),
        ):
            begin = time.process_time()
            told = best(free, orders)
            self.assertTrue(shows_best(free, orders, told))
            whole = some_tree(random.Random(1), free, orders, told[0], early=0)
            self.assertEqual(len(list(paths(whole))), 2 ** 13 - 1)
            self.assertTrue(shows_best(free, orders, (told[0], whole)))
            self.assertLess(time.process_time() - begin, 5)

    def test_told_is_the_askers_own(self):
        free, orders = {"ann": 5}, [pays("ann", "bob", 5)]
        best(free, orders)[0].clear()
        self.is_best(free, orders, [0])


class Refused(Case):

    def none(self, free, orders):
        self.refused(NoOrders, {}, best, free, orders)
        for told in (([], ("best",)), ([0], ("best",)), None, []):
            self.refused(NoOrders, {}, shows_best, free, orders, told)

    def test_of_free(self):
        for free in [thing for thing in [*ODD, 0, 5, [("ann", 5)], (("ann", 5),)] if thing not in ({}, {"ann": 5})]:
            self.none(free, [])
            self.none(free, [pays("ann", "bob", 5)])
        for number in [*NOT_NUMBERS, -1, -10 ** 39]:
            self.none({"ann": number}, [])
            self.none({"ann": 5, "zoe": number}, [pays("ann", "bob", 5)])
        for name in [name for name in NOT_NAMES if not isinstance(name, (list, dict))]:
            self.none({name: 5}, [pays("ann", "bob", 5)])

    def test_of_orders(self):
        for orders in [thing for thing in [*ODD, *NOT_LISTS] if thing not in ([], ())]:
            self.none({}, orders)
        for spoiled in (pays("ann", "ann", 1), pays("ann", "bob", 0), list(pays("ann", "bob", 1)), pays("ann", "Bob", 1)):
            self.none({"ann": 5}, [spoiled])
            self.none({"ann": 5}, [pays("ann", "bob", 1)] * 11 + [spoiled])
        self.none({}, {0: pays("ann", "bob", 1)})

    def test_of_more_than_twelve(self):
        self.none({}, [pays("ann", "bob", 1)] * 13)
        self.none({}, [pays("ann", "bob", 1)] * 60)
        self.assertEqual(best({}, [pays("ann", "bob", 1)] * 12), ([], ("split", ("short", "ann"), best({}, [pays("ann", "bob", 1)] * 11)[1])))


class Shows(Case):

    def setUp(self):
        self.free = {"ann": 4, "bob": 1}
        self.orders = [pays("ann", "bob", 3), pays("ann", "cid", 5), pays("bob", "cid", 4), pays("cid", "ann", 3), pays("ann", "cid", 9)]
        self.told = best(self.free, self.orders)

    def no_other(self, told, free=None, orders=None):
        parts = (self.free if free is None else free, self.orders if orders is None else orders, told)
        before = copy.deepcopy(parts)
        self.assertIs(shows_best(*parts), False, repr(told))
        self.assertEqual(parts, before)

    def test_other_trees(self):
        many = 0
        for seed in range(300):
            chance = random.Random(seed)
            free, orders = some(chance, 7)
            places, paper = best(free, orders)
            other = some_tree(chance, free, orders, places)
            many += other != paper
            self.assertTrue(is_tree(free, orders, places, other))
            self.assertIs(shows_best(free, orders, (places, other)), True)
        self.assertGreater(many, 150)

    def test_each_leaf_is_true_where_it_stands(self):
        leaves = [("short", name) for name in (*NAMES, "zoe")] + [("less",), ("like",), ("best",), ("split",)]
        let_by = 0
        for seed in range(120):
            chance = random.Random(seed)
            free, orders = some(chance, 5)
            places, paper = best(free, orders)
            for tree in (paper, some_tree(chance, free, orders, places)):
                for path in paths(tree):
                    for leaf in [*leaves, ("split", tree, tree), ("split", at(tree, path), ("less",)), ("split", ("less",), ("less",))]:
                        told = exchanged(tree, path, leaf)
                        right = is_tree(free, orders, places, told)
                        let_by += right and told != tree
                        self.assertIs(shows_best(free, orders, (places, told)), right, (free, orders, places, told))
        self.assertGreater(let_by, 100)

    def test_all_sets_with_all_trees_of_two(self):
        kinds = set()
        leaves = [("short", "ann"), ("short", "bob"), ("short", "cid"), ("less",), ("like",), ("best",)]
        halves = leaves + [("split", one, other) for one in leaves for other in leaves]
        trees = leaves + [("split", one, other) for one in halves for other in halves]
        for free, orders in (
            ({"ann": 3}, [pays("ann", "bob", 3), pays("ann", "cid", 3)]), ({}, [pays("ann", "bob", 3), pays("bob", "ann", 3)]),
            ({"ann": 1}, [pays("ann", "bob", 1), pays("bob", "cid", 2)]),
        ):
            right = best_by_search(free, orders)
            for places in ([], [0], [1], [0, 1]):
                for tree in trees:
                    wanted = places == right and is_tree(free, orders, places, tree)
                    kinds.add((tuple(places), wanted))
                    self.assertIs(shows_best(free, orders, (places, tree)), wanted, (free, orders, places, tree))
        self.assertEqual(len(kinds), 6)

    def test_another_set_of_which_a_tree_is_true(self):
        orders = [pays("ann", "bob", 3), pays("ann", "bob", 2)]
        # Of a set that doesn't balance all leaves may be true: it is still not the best one.
        self.no_other(([0, 1], ("best",)), {"ann": 3}, orders)
        self.no_other(([0, 1], ("split", ("split", ("best",), ("less",)), ("less",))), {"ann": 3}, orders)
        self.no_other(([0, 1], ("split", ("split", ("short", "ann"), ("less",)), ("less",))), {"ann": 3}, orders)
        self.no_other(([1], ("split", ("short", "ann"), ("split", ("best",), ("less",)))), {"ann": 3}, orders)
        self.assertIs(shows_best({"ann": 3}, orders, ([0], ("split", ("split", ("short", "ann"), ("best",)), ("less",)))), True)
        self.assertIs(shows_best({"ann": 2}, orders, ([1], ("split", ("short", "ann"), ("split", ("best",), ("less",))))), True)

    def test_like_is_of_the_list_alone(self):
        orders = [pays("ann", "bob", 2)] * 2
        tree = ("split", ("split", ("short", "ann"), ("best",)), ("like",))
        self.assertIs(shows_best({"ann": 2}, orders, ([0], tree)), True)
        self.no_other(([0], exchanged(tree, (2,), ("less",))), {"ann": 2}, orders)
        # By the other one of the two all leaves but like would be true.
        self.no_other(([1], ("split", ("split", ("short", "ann"), ("like",)), ("split", ("best",), ("less",)))), {"ann": 2}, orders)
        self.no_other(([1], ("split", ("split", ("short", "ann"), ("less",)), ("split", ("best",), ("less",)))), {"ann": 2}, orders)

    def test_of_other_places(self):
        places, paper = self.told
        self.assertEqual(places, [0, 2, 3])
        for other in (
            [0, 2], [0, 2, 3, 4], [0, 0, 2, 3], [0, 2, 3, 3], [3, 2, 0], [2, 0, 3], [], [0, 2, 3, 5], [-1, 0, 2, 3], [1], [False, 2, 3],
            [0, True, 3], ["0", 2, 3], [None], [[0], 2, 3], [(0,), 2, 3], [0, 2, 3.0][:2] + ["3"], (0, 2, 3), "023", {0: 0, 2: 2, 3: 3},
            {0, 2, 3}, 0, None, True, [paper], paper,
        ):
            self.no_other((other, paper))

    def test_truths_for_places(self):
        orders = [pays("ann", "bob", 2), pays("ann", "bob", 3)]
        for free, right, spoiled in (({"ann": 5}, [0, 1], [False, 1]), ({"ann": 5}, [0, 1], [0, True]), ({"ann": 3}, [1], [True])):
            places, paper = best(free, orders)
            self.assertEqual(places, right)
            self.no_other((spoiled, paper), free, orders)

    def test_of_other_papers(self):
        places, paper = self.told
        for path in paths(paper):
            node = at(paper, path)
            spoiled = [
                list(node), node[:-1], (*node, ()), (*node, None), (node,), [node], (), [], None, True, 0, 1, "split", "best", node[0], {},
                (None, *node[1:]), (True, *node[1:]), ([node[0]], *node[1:]), ((node[0],), *node[1:]), (node[0].upper(), *node[1:]),
                ("split", node, node, node), ("split", node), ("split",), ("short",), ("short", None), ("short", "zoe"), ("short", True),
                ("short", ["ann"]), ("short", {}), ("short", ("ann",)), ("short", ""), ("short", "ann", "ann"), ("less", "ann"), ("best", 0),
                ("like", None), ("less", ()), ("none",), ("leaf", "ann"), ("best", "best", "best"), ("less", "less", "less"),
            ]
            if node[0] == "split":
                spoiled += [("split", node[2], node[1]), ("split", node[1], node[1]), ("split", node[2], node[2]), ["split", *node[1:]]]
                spoiled += [("split", list(node[1]), node[2]), ("split", node[1], list(node[2])), ("short", *node[1:]), ("less", *node[1:])]
            for other in spoiled:
                told = exchanged(paper, path, other)
                if not is_tree(self.free, self.orders, places, told):
                    self.no_other((places, told))
                else:
                    self.assertIs(shows_best(self.free, self.orders, (places, told)), True)

    def test_a_split_too_deep(self):
        self.no_other(([], ("split", ("best",), ("best",))), {}, [])
        self.no_other(([], ("split", ("less",), ("best",))), {}, [])
        deep = ("best",)
        for _ in range(300):
            deep = ("split", deep, ("less",))
        self.no_other(([], deep), {}, [])
        self.no_other((self.told[0], deep))
        places, paper = self.told
        for path in paths(paper):
            if len(path) == 5:
                leaf = at(paper, path)
                self.no_other((places, exchanged(paper, path, ("split", leaf, leaf))))

    def test_names_exchanged(self):
        orders = [pays("ann", "bob", 3), pays("cid", "bob", 3)]
        right = ("split", ("short", "ann"), ("split", ("short", "cid"), ("best",)))
        self.assertIs(shows_best({}, orders, ([], right)), True)
        for one in ("ann", "bob", "cid", "zoe"):
            for other in ("ann", "bob", "cid", "zoe"):
                tree = ("split", ("short", one), ("split", ("short", other), ("best",)))
                self.assertIs(shows_best({}, orders, ([], tree)), tree == right)

    def test_of_anything(self):
        places, paper = self.told
        for thing in [*ODD, 0, 1, (places, list(paper)), [places, paper], (paper, places), (places,), (places, paper, ()), {0: places}]:
            self.no_other(thing)
            self.no_other((thing, paper))
            self.no_other((places, thing))
            self.no_other((thing, places, paper))
        self.assertIs(shows_best({}, [], ([], ("best",))), True)
        for thing in [*ODD, 0, 1, ((), ("best",)), ([], ["best"]), ([], "best"), ([], ()), ([], ("less",)), ([], ("like",)), ([0], ("best",))]:
            self.no_other(thing, {}, [])


if __name__ == "__main__":
    unittest.main()

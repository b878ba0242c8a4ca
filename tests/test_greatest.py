"""[40], [2] (b): the greatest round, its paper, and the judge of both."""

import copy
import itertools
import random
import unittest

from clearyard.errors import NoOrders
from clearyard.greatest import greatest, shows_greatest
from things import MOST, NOT_LISTS, NOT_NAMES, NOT_NUMBERS, ODD, Case

NAMES = ("ann", "bob", "cid", "dan")


def pays(payer, payee, amount):
    return ("order", payer, payee, amount, 0, 0, 9)


def stands(free, orders, places):
    """Whether a set of places stands, by the words of the point."""
    for place in places:
        if any(orders[at][1] == orders[place][1] and at not in places for at in range(place)):
            return False
    have = dict(free)
    for place in places:
        _, payer, payee, amount, _, _, _ = orders[place]
        have[payer] = have.get(payer, 0) - amount
        have[payee] = have.get(payee, 0) + amount
    return all(number >= 0 for number in have.values())


def greatest_by_search(free, orders):
    """The union of all sets that stand."""
    found = set()
    for many in range(len(orders) + 1):
        for places in itertools.combinations(range(len(orders)), many):
            if stands(free, orders, places):
                found.update(places)
    return sorted(found)


def is_paper(free, orders, places, paper):
    """Whether paper is one, by the words of the point."""
    if sorted([*places, *paper]) != list(range(len(orders))):
        return False
    left = list(range(len(orders)))
    for place in paper:
        payer = orders[place][1]
        if place != max(at for at in left if orders[at][1] == payer):
            return False
        goes = sum(orders[at][3] for at in left if orders[at][1] == payer)
        comes = sum(orders[at][3] for at in left if orders[at][2] == payer)
        if free.get(payer, 0) + comes - goes >= 0:
            return False
        left.remove(place)
    return True


def some(chance, most):
    free = {name: chance.randint(0, 6) for name in NAMES if chance.random() < 0.6}
    orders = [pays(*chance.sample(NAMES, 2), chance.randint(1, 9)) for _ in range(chance.randint(0, most))]
    return free, orders


class Greatest(Case):

    def is_greatest(self, free, orders, places):
        before = copy.deepcopy((free, orders))
        told = greatest(free, orders)
        self.assertEqual((free, orders), before)
        self.assertIs(told.__class__, tuple)
        self.assertEqual([part.__class__ for part in told], [list, tuple])
        self.assertEqual(told[0], places)
        self.assertTrue(is_paper(free, orders, *told))
        self.assertIs(shows_greatest(free, orders, told), True)
        self.assertEqual(greatest(free=free, orders=tuple(orders)), told)
        self.assertIs(shows_greatest(free=free, orders=tuple(orders), told=told), True)

    def test_none(self):
        self.is_greatest({}, [], [])
        self.is_greatest({"ann": 5}, [], [])

    def test_one(self):
        self.is_greatest({"ann": 5}, [pays("ann", "bob", 5)], [0])
        self.is_greatest({"ann": 5}, [pays("ann", "bob", 6)], [])
        self.is_greatest({}, [pays("ann", "bob", 1)], [])
        self.is_greatest({"ann": 0, "bob": 9}, [pays("ann", "bob", 1)], [])

    def test_rings_that_go_only_together(self):
        ring = [pays("ann", "bob", 7), pays("bob", "cid", 7), pays("cid", "ann", 7)]
        self.is_greatest({}, ring, [0, 1, 2])
        self.is_greatest({}, ring[:2], [])
        self.is_greatest({}, [pays("ann", "bob", 8), *ring[1:]], [])
        self.is_greatest({"ann": 1}, [pays("ann", "bob", 8), *ring[1:]], [0, 1, 2])

    def test_all_earlier_ones_of_the_payer(self):
        orders = [pays("ann", "bob", 9), pays("ann", "cid", 1)]
        self.is_greatest({"ann": 5}, orders, [])
        self.is_greatest({"ann": 5}, orders[::-1], [0])
        self.is_greatest({"ann": 10}, orders, [0, 1])
        self.is_greatest({"ann": 9}, orders, [0])

    def test_names_that_free_has_not(self):
        self.is_greatest({"ann": 5}, [pays("bob", "cid", 5), pays("ann", "bob", 5)], [0, 1])
        self.is_greatest({"zoe": 5}, [pays("bob", "cid", 5)], [])

    def test_what_falls_makes_others_fall(self):
        orders = [pays("ann", "bob", 5), pays("bob", "cid", 5), pays("cid", "dan", 5), pays("dan", "eve", 5)]
        self.is_greatest({"ann": 5}, orders, [0, 1, 2, 3])
        self.is_greatest({"ann": 4}, orders, [])
        self.is_greatest({"ann": 4, "cid": 5}, orders, [2, 3])

    def test_sixty(self):
        names = [one + other for one in "abcdefgh" for other in "abcdefgh"]
        ring = [pays(names[at], names[(at + 1) % 60], MOST) for at in range(60)]
        self.is_greatest({}, ring, list(range(60)))
        self.is_greatest({}, [*ring[:59], pays(names[59], names[60], MOST)], [])
        self.is_greatest({"ann": 60}, [pays("ann", "bob", 1)] * 60, list(range(60)))
        self.is_greatest({"ann": 10 ** 39}, [pays("ann", "bob", MOST)] * 60, list(range(60)))
        self.is_greatest({"ann": 17}, [pays("ann", "bob", 1)] * 60, list(range(17)))

    def test_against_a_search_through_all_sets(self):
        kinds = set()
        for seed in range(400):
            free, orders = some(random.Random(seed), 8)
            places = greatest_by_search(free, orders)
            self.assertTrue(stands(free, orders, places))
            self.is_greatest(free, orders, places)
            kinds.add((len(places) > 0, len(places) < len(orders)))
        self.assertEqual(len(kinds), 4)

    def test_rank_and_times_aside(self):
        orders = [("order", "ann", "bob", 5, 9, 3, 4), ("order", "ann", "bob", 5, 0, 0, 1)]
        self.is_greatest({"ann": 5}, orders, [0])

    def test_told_is_the_askers_own(self):
        free, orders = {"ann": 5}, [pays("ann", "bob", 5)]
        greatest(free, orders)[0].clear()
        self.is_greatest(free, orders, [0])


class Refused(Case):

    def none(self, free, orders):
        self.refused(NoOrders, {}, greatest, free, orders)
        for told in (([], ()), ([0], ()), None, []):
            self.refused(NoOrders, {}, shows_greatest, free, orders, told)

    def test_free(self):
        orders = [pays("ann", "bob", 5)]
        for free in [thing for thing in ODD if not isinstance(thing, dict)] + [[("ann", 5)], 5, "ann"]:
            self.none(free, orders)
            self.none(free, [])
        for name in [thing for thing in NOT_NAMES if not isinstance(thing, (list, dict))] + [("ann",)]:
            self.none({name: 5}, orders)
            self.none({"ann": 5, name: 5}, orders)
        for number in [*NOT_NUMBERS, -1, -10 ** 39]:
            self.none({"ann": number}, orders)
            self.none({"bob": 5, "zoe": number}, [])

    def test_orders(self):
        order = pays("ann", "bob", 5)
        for orders in [*NOT_LISTS, order]:
            self.none({"ann": 5}, orders)
        for thing in [*ODD, list(order), order[:6], (*order, 1), pays("ann", "ann", 1), pays("ann", "bob", 0)]:
            self.none({"ann": 5}, [thing])
            self.none({"ann": 5}, (order, thing))

    def test_sixty_one(self):
        self.none({"ann": 61}, [pays("ann", "bob", 1)] * 61)
        self.none({}, tuple([pays("ann", "bob", 1)] * 61))


class Shows(Case):

    def test_just_such_pairs_of_all_small_ones(self):
        let_by = 0
        for seed in range(150):
            free, orders = some(random.Random(seed), 5)
            places = greatest_by_search(free, orders)
            for each in itertools.permutations(range(len(orders))):
                for cut in range(len(each) + 1):
                    told = (list(each[:cut]), each[cut:])
                    right = told[0] == places and is_paper(free, orders, *told)
                    let_by += right
                    self.assertIs(shows_greatest(free, orders, told), right)
        self.assertGreater(let_by, 200)

    def test_any_order_that_keeps_to_the_words(self):
        orders = [pays("ann", "cid", 5), pays("bob", "cid", 5), pays("ann", "bob", 1)]
        for paper in itertools.permutations(range(3)):
            self.assertIs(shows_greatest({}, orders, ([], paper)), paper in ((2, 0, 1), (2, 1, 0), (1, 2, 0)))
        self.assertIs(shows_greatest({"bob": 4}, orders[:2], ([], (1, 0))), True)
        self.assertIs(shows_greatest({"bob": 4}, orders[:2], ([], (0, 1))), True)

    def no_other(self, free, orders, told):
        before = copy.deepcopy((free, orders, told))
        self.assertIs(shows_greatest(free, orders, told), False, repr(told))
        self.assertEqual((free, orders, told), before)

    def test_no_other(self):
        free = {"ann": 5, "bob": 2}
        orders = [pays("ann", "bob", 3), pays("bob", "cid", 9), pays("ann", "dan", 1), pays("ann", "dan", 9), pays("cid", "dan", 1)]
        places, paper = greatest(free, orders)
        self.assertEqual((places, sorted(paper)), ([0, 2], [1, 3, 4]))
        for told in (
            (places, list(paper)), (tuple(places), paper), [places, paper], (paper, places), (places,), (places, paper, ()),
            (places, paper, None), (list(paper), tuple(places)), (places + [4], paper), (places[:1], paper), (places, paper[:2]),
            (places[::-1], paper), (places + places, paper), ([0, 0, 2], paper), (places, (*paper, paper[-1])),
            (places, (paper[0], *paper)), (places, (*paper, 0)), (places, (*paper, 5)), (places, (*paper, -1)), ([0, 2, 5], paper),
            ([-5, 2], paper), ([-1, 0, 2], paper), ([False, 2], paper), (["0", 2], paper), ([None, 2], paper), ([[0], 2], paper),
            ([], (3, 1, 4, 2, 0)), ([0], (3, 1, 4, 2)), ([0, 1, 2, 3, 4], ()), ([], ()), ({0: 0, 2: 2}, paper), (set(places), paper),
            ("02", paper), (places, "143"), (None, paper), (places, None), (0, paper), (places, 1), (places, (1, 4, None)),
            (places, ([1], 3, 4)), (places, ((1,), 3, 4)), ((places, paper),), ([places], paper), (places, (paper,)),
        ):
            self.no_other(free, orders, told)
        for each in itertools.permutations((1, 3, 4)):
            self.assertIs(shows_greatest(free, orders, ([0, 2], each)), is_paper(free, orders, [0, 2], each))

    def test_truths(self):
        free = {"ann": 1}
        orders = [pays("ann", "bob", 1), pays("ann", "bob", 1)]
        self.assertIs(shows_greatest(free, orders, ([0], (1,))), True)
        self.no_other(free, orders, ([False], (1,)))
        self.no_other(free, orders, ([0], (True,)))
        self.no_other(free, orders, ([False], (True,)))

    def test_another_set_that_stands(self):
        orders = [pays("ann", "bob", 7), pays("bob", "ann", 7)]
        self.assertIs(shows_greatest({}, orders, ([0, 1], ())), True)
        self.no_other({}, orders, ([], (0, 1)))
        self.no_other({}, orders, ([], (1, 0)))
        self.no_other({"ann": 9}, orders, ([0], (1,)))

    def test_a_set_that_does_not_stand(self):
        orders = [pays("ann", "bob", 7), pays("ann", "bob", 1)]
        self.no_other({"ann": 3}, orders, ([0, 1], ()))
        self.no_other({"ann": 3}, orders, ([0], (1,)))
        self.no_other({"ann": 3}, orders, ([1], (0,)))
        self.assertIs(shows_greatest({"ann": 3}, orders, ([], (1, 0))), True)

    def test_of_anything(self):
        free, orders = {"ann": 5}, [pays("ann", "bob", 5), pays("ann", "bob", 5)]
        for thing in [*ODD, 0, 1, ([0], (1,), 0), ([0],), [[0], (1,)], ((0,), (1,)), ([0], [1]), {"places": [0]}]:
            self.no_other(free, orders, thing)
            self.no_other(free, orders, (thing, (1,)))
            self.no_other(free, orders, ([0], thing) if thing != (1,) else None)
            self.no_other(free, orders, ([thing], (1,)) if repr(thing) != "0" else None)
            self.no_other(free, orders, ([0], (thing,)) if repr(thing) != "1" else None)
        self.assertIs(shows_greatest({}, [], ([], ())), True)
        for thing in [*ODD, 0, 1, ((), ()), ([], []), [[], ()], ([0], ()), ([], (0,))]:
            self.no_other({}, [], thing)


if __name__ == "__main__":
    unittest.main()

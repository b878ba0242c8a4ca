"""The best round: of all sets of orders that balance, with a tree that shows it."""

from clearyard.greatest import first_below, have_by_all
from clearyard.orders import look_at_round
from clearyard.words import is_name, is_number, is_pair

MOST_ORDERS = 12


def best(free, orders):
    """The places of the best set that balances, and the paper that shows it."""
    look_at_round(free, orders, MOST_ORDERS)
    top = _top(free, orders)
    # The empty set always balances: it is the one to beat.
    places = _beaten(orders, top, [])
    return places, _paper(orders, top, places)


def shows_best(free, orders, told):
    """Whether told is the best set that balances, with a paper of it."""
    look_at_round(free, orders, MOST_ORDERS)
    if not is_pair(told) or not _is_set(told[0], len(orders)):
        return False
    places, paper = told
    # A tree may well be true of a set that doesn't balance: no leaf says that it does.
    if first_below(have_by_all(free, [orders[place] for place in places])) is not None:
        return False
    return _is_true(orders, _top(free, orders), places, paper)


def _is_set(thing, many):
    """Whether thing is a rising list of places of so many."""
    if not isinstance(thing, list) or not all([is_number(place) for place in thing]):
        return False
    return thing == [place for place in range(many) if place in thing]


# A node of the tree is a triple: the next place, what each name has at most with all that was chosen to go from it
# and all that may yet come, and the places chosen.


def _top(free, orders):
    """The node at which nothing is chosen, and all may yet come."""
    most = dict(free)
    for order in orders:
        payer, payee, amount = order[1:4]
        most[payer] = most.get(payer, 0)
        most[payee] = most.get(payee, 0) + amount
    return 0, most, []


def _yes(orders, node):
    """The node behind one, its next place chosen."""
    place, most, chosen = node
    payer, _, amount = orders[place][1:4]
    return place + 1, {**most, payer: most[payer] - amount}, [*chosen, place]


def _no(orders, node):
    """The node behind one, its next place not chosen."""
    place, most, chosen = node
    _, payee, amount = orders[place][1:4]
    return place + 1, {**most, payee: most[payee] - amount}, chosen


def _rank(orders, places):
    """By this sets rise, from better to worse: sums and counts as what they are short of nought."""
    return -sum([orders[place][3] for place in places]), -len(places), places


def _reach(orders, node):
    """What was chosen and all yet to choose: every other set behind a node has less."""
    return node[2] + list(range(node[0], len(orders)))


def _beaten(orders, node, places):
    """The best set behind a node that is better than places, or else places."""
    reach = _reach(orders, node)
    if first_below(node[1]) is not None or _rank(orders, reach) >= _rank(orders, places):
        return places
    if node[0] == len(orders):
        return reach
    return _beaten(orders, _no(orders, node), _beaten(orders, _yes(orders, node), places))


def _paper(orders, node, told):
    """The tree from a node on that shows that told is the best set."""
    below = first_below(node[1])
    if below is not None:
        return "short", below
    if _is_less(orders, node, told):
        return ("less",)
    if _is_like(orders, node, told):
        return ("like",)
    if node[0] == len(orders):
        return ("best",)
    return "split", _paper(orders, _yes(orders, node), told), _paper(orders, _no(orders, node), told)


def _is_less(orders, node, told):
    return _rank(orders, _reach(orders, node))[:2] > _rank(orders, told)[:2]


def _is_like(orders, node, told):
    reach = _reach(orders, node)
    return _rank(orders, reach)[:2] == _rank(orders, told)[:2] and reach > told


def _is_true(orders, node, told, tree):
    """Whether tree is one from a node on, each leaf true where it stands."""
    if not isinstance(tree, tuple):
        return False
    if len(tree) != 3:
        return _is_true_leaf(orders, node, told, tree)
    if tree[0] != "split" or node[0] == len(orders):
        return False
    yes = _is_true(orders, _yes(orders, node), told, tree[1])
    return yes and _is_true(orders, _no(orders, node), told, tree[2])


def _is_true_leaf(orders, node, told, leaf):
    if len(leaf) == 2:
        return leaf[0] == "short" and is_name(leaf[1]) and node[1].get(leaf[1], 0) < 0
    if leaf == ("less",):
        return _is_less(orders, node, told)
    if leaf == ("like",):
        return _is_like(orders, node, told)
    return leaf == ("best",) and node[0] == len(orders) and node[2] == told

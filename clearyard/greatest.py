"""The greatest round: as many orders as can go at once, by the queue's order."""

from clearyard.orders import look_at_round
from clearyard.words import is_number, is_pair

MOST_ORDERS = 60


def greatest(free, orders):
    """The places of the greatest set that stands, and the paper that shows it."""
    look_at_round(free, orders, MOST_ORDERS)
    have = have_by_all(free, orders)
    left = _places_by_payer(orders)
    paper = []
    below = first_below(have)
    # What a payer can't pay with all that is left it can't pay with less: its last one goes.
    while below is not None:
        place = left[below].pop()
        _undo(have, orders[place])
        paper.append(place)
        below = first_below(have)
    places = [place for place in range(len(orders)) if place not in paper]
    return places, tuple(paper)


def shows_greatest(free, orders, told):
    """Whether told is the greatest set that stands, with a paper of it."""
    look_at_round(free, orders, MOST_ORDERS)
    if not _parts_places(told, len(orders)):
        return False
    have = have_by_all(free, orders)
    left = _places_by_payer(orders)
    for place in told[1]:
        payer = orders[place][1]
        if left[payer].pop() != place or have[payer] >= 0:
            return False
        _undo(have, orders[place])
    return first_below(have) is None


def have_by_all(free, orders):
    """What each name has when all orders go at once."""
    have = dict(free)
    for order in orders:
        payer, payee, amount = order[1:4]
        have[payer] = have.get(payer, 0) - amount
        have[payee] = have.get(payee, 0) + amount
    return have


def _places_by_payer(orders):
    left = {}
    for place, order in enumerate(orders):
        left.setdefault(order[1], []).append(place)
    return left


def first_below(have):
    """A name that has less than 0, None where there is none."""
    for name, number in have.items():
        if number < 0:
            return name
    return None


def _undo(have, order):
    payer, payee, amount = order[1:4]
    have[payer] += amount
    have[payee] -= amount


def _parts_places(told, many):
    """Whether told is a rising list of some places and a tuple of the others."""
    if not is_pair(told) or not isinstance(told[0], list) or not isinstance(told[1], tuple):
        return False
    places, paper = told
    if not all([is_number(place) for place in (*places, *paper)]):
        return False
    return places == sorted(places) and sorted([*places, *paper]) == list(range(many))

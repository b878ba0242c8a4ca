"""Ways: over whose edges a payment goes for the least, and what must come to each name for it."""

from clearyard.errors import NoWay
from clearyard.words import MOST, is_amount, is_list, is_name, is_number, is_pair, is_whole

MOST_EDGES = 40
MOST_RATE = 1000


def fee(edge, k):
    """What the first of an edge wants for handing on k."""
    return edge[3] + k * edge[4] // 1000


def cheapest(edges, payer, payee, amount):
    """A way with the least over its first edge, None where there is none; and what must come to each name."""
    _look_at(edges, payer, payee, amount)
    needs, goes_on = _needs_of(edges, payer, payee, amount)
    first = _first_edge(edges, payer, needs)
    if first is None:
        return None, _rising(needs)
    way = [_step(first, needs)]
    while way[-1][1] != payee:
        way.append(_step(goes_on[way[-1][1]], needs))
    return way, _rising(needs)


def shows_cheapest(edges, payer, payee, amount, told):
    """Whether told is a way with the least over its first edge, or None, and what must come to each name."""
    _look_at(edges, payer, payee, amount)
    if not is_pair(told) or not _are_needs(edges, payer, payee, amount, told[1]):
        return False
    way, needs = told
    first = _first_edge(edges, payer, needs)
    if first is None:
        return way is None
    return _is_way(edges, payer, payee, amount, way) and way[0][2] == needs[first[1]]


def _look_at(edges, payer, payee, amount):
    if not is_list(edges) or len(edges) > MOST_EDGES or not all([_is_edge(edge) for edge in edges]):
        raise NoWay()
    if len(set([edge[:2] for edge in edges])) != len(edges):
        raise NoWay()
    if not is_name(payer) or not is_name(payee) or payer == payee or not is_amount(amount):
        raise NoWay()


def _is_edge(thing):
    if not isinstance(thing, tuple) or len(thing) != 5:
        return False
    one, other, room, base, rate = thing
    if not is_name(one) or not is_name(other) or one == other:
        return False
    return all([is_whole(number) and number <= MOST for number in (room, base, rate)]) and rate <= MOST_RATE


def _rising(needs):
    return {name: needs[name] for name in sorted(needs)}


def _step(edge, needs):
    """What a way says of an edge: its names, and what goes over it."""
    return edge[0], edge[1], needs[edge[1]]


def _carries(edge, needs):
    """Whether what must come to the other of an edge is known, and may go over it."""
    return edge[1] in needs and needs[edge[1]] <= edge[2]


def _asked_by(edge, needs):
    """What must come to the first of an edge so that it hands on over it."""
    over = needs[edge[1]]
    return over + fee(edge, over)


def _first_edge(edges, payer, needs):
    """The edge from payer over which the least may go, None where there is none."""
    firsts = [edge for edge in edges if edge[0] == payer and _carries(edge, needs)]
    return min(firsts, key=lambda edge: needs[edge[1]], default=None)


def _needs_of(edges, payer, payee, amount):
    """The least that must come to each name, and the edge over which it hands on then."""
    needs = {payee: amount}
    goes_on = {}
    edge = _next_edge(edges, payer, needs)
    # More asked is never less over the edge ahead: so the least of all comes first, and stays.
    while edge is not None:
        needs[edge[0]] = _asked_by(edge, needs)
        goes_on[edge[0]] = edge
        edge = _next_edge(edges, payer, needs)
    return needs, goes_on


def _next_edge(edges, payer, needs):
    """Of the edges from names not yet known the one that asks the least, None where there is none."""
    left = [edge for edge in edges if edge[0] != payer and edge[0] not in needs and _carries(edge, needs)]
    return min(left, key=lambda edge: _asked_by(edge, needs), default=None)


def _are_needs(edges, payer, payee, amount, needs):
    """Whether needs is a dict of what must come to each name, no edge asking less."""
    if not isinstance(needs, dict) or not all([is_name(name) for name in needs]):
        return False
    if not all([is_number(needs[name]) for name in needs]) or list(needs) != sorted(needs):
        return False
    if payee not in needs or needs[payee] != amount:
        return False
    asks = [edge for edge in edges if edge[0] not in (payer, payee) and _carries(edge, needs)]
    if not all([edge[0] in needs and needs[edge[0]] <= _asked_by(edge, needs) for edge in asks]):
        return False
    return _all_reach(payee, needs, [edge for edge in asks if needs[edge[0]] == _asked_by(edge, needs)])


def _all_reach(payee, needs, edges):
    """Whether edges lead from each name to payee: in a ring without fees they may stand by one another alone."""
    reached = {payee: True}
    for _ in needs:
        for edge in edges:
            if edge[1] in reached:
                reached[edge[0]] = True
    return len(reached) == len(needs)


def _is_way(edges, payer, payee, amount, way):
    """Whether way is a list of what goes over edges, from payer to payee, no name twice."""
    if not isinstance(way, list) or not all([_is_step(step) for step in way]):
        return False
    names = [payer, *[step[1] for step in way]]
    if names[-1] != payee or len(set(names)) != len(names):
        return False
    return _is_walked({edge[:2]: edge for edge in edges}, names, amount, way)


def _is_step(thing):
    if not isinstance(thing, tuple) or len(thing) != 3:
        return False
    return is_name(thing[1]) and is_number(thing[2])


def _is_walked(by_names, names, amount, way):
    """Whether a way goes along names by edges, from the last on, over each what must, and has room."""
    over = amount
    for at in range(len(way) - 1, -1, -1):
        edge = by_names.get((names[at], names[at + 1]))
        if edge is None or over > edge[2] or way[at] != (*edge[:2], over):
            return False
        over += fee(edge, over)
    return True

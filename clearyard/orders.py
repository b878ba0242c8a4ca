"""What an order is, and what rounds are reckoned from."""

from clearyard.errors import NoOrders
from clearyard.words import is_amount, is_list, is_name, is_number, is_time, is_whole

TOP_RANK = 9


def is_order(thing):
    """Whether thing is an order."""
    if not isinstance(thing, tuple) or len(thing) != 7:
        return False
    word, payer, payee, amount, rank, begin, until = thing
    if word != "order" or not is_name(payer) or not is_name(payee) or payer == payee:
        return False
    if not is_amount(amount) or not is_number(rank) or not 0 <= rank <= TOP_RANK:
        return False
    return is_time(begin) and is_time(until) and begin < until


def look_at_round(free, orders, most):
    """Refuses what is no dict of what names have free, or no list of so many orders at most."""
    if not isinstance(free, dict) or not is_list(orders) or len(orders) > most:
        raise NoOrders()
    if not all([is_name(name) and is_whole(number) for name, number in free.items()]):
        raise NoOrders()
    if not all([is_order(order) for order in orders]):
        raise NoOrders()

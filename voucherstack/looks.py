"""Looks over baskets: for vouchers that can't be used, orders that are reckoned unlike, and Offs that spill."""

from voucherstack.cutting import about, sum_of_prices
from voucherstack.rules import Way
from voucherstack.search import ways_from
from voucherstack.vouchers import Off


def first_use(till, voucher, baskets):
    return first_found(till, baskets, lambda ways: order_with(ways, voucher))


def first_unlike(till, baskets):
    return first_found(till, baskets, unlike_orders)


def first_spill(till, baskets):
    return first_found(till, baskets, order_that_spills)


def first_found(till, baskets, look):
    """The number of the first basket for whose ways a look tells a tuple, and behind it that tuple; else None."""
    for number, basket in enumerate(baskets):
        found = look(ways_from(Way(till, basket, [1 for voucher in till.vouchers])))
        if found is not None:
            return (number,) + found
    return None


def order_with(ways, voucher):
    for way in ways:
        if voucher in way.used:
            return (list(way.used),)
    return None


def unlike_orders(ways):
    firsts = {}
    for way in ways:
        first = firsts.setdefault(tuple(sorted(way.used)), way)
        if first.standing.whole() != way.standing.whole():
            return (list(first.used), list(way.used))
    return None


def order_that_spills(ways):
    for way in ways:
        place = place_of_spill(way)
        if place is not None:
            return (list(way.used), place)
    return None


def place_of_spill(way):
    # A way keeps the standing of its end alone, so that its order is gone through anew.
    so_far = Way(way.till, way.basket, way.hand)
    for place, number in enumerate(way.used):
        if spills(so_far, way.till.vouchers[number]):
            return place
        so_far = so_far.behind(number)
    return None


def spills(way, voucher):
    if not isinstance(voucher, Off):
        return False
    pieces = about(voucher, way.till.parents, way.basket, way.standing)
    return voucher.amount > sum_of_prices(way.standing, pieces)

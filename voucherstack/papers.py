"""Whether a paper shows an order of vouchers to be the best one."""

from voucherstack.rules import way_by
from voucherstack.search import least_behind


def holds(till, basket, hand, order, total, paper):
    ways = [way_by(till, basket, hand, entry[0]) for entry in paper]
    for way, entry in zip(ways, paper):
        if not is_entry_of(way, entry):
            return False
    return leaves_none_out(ways, paper, total) and first_of_cheapest(ways) == (total, order)


def is_entry_of(way, entry):
    # A way that has not come to the end of the entry's order shows that this can't be gone on with.
    return (way.used, way.standing.whole(), least_behind(way)) == entry


def leaves_none_out(ways, paper, total):
    entered = {}
    for way in ways:
        entered[tuple(way.used)] = True
    if () not in entered:
        return False
    for way, entry in zip(ways, paper):
        if entry[2] < total and not goes_on_within(way, entered):
            return False
    return True


def goes_on_within(way, entered):
    for number in way.followers():
        if tuple(way.used + [number]) not in entered:
            return False
    return True


def first_of_cheapest(ways):
    # There is one, as the empty order is let by and was seen to be entered.
    return min([(way.standing.whole(), way.used) for way in ways if way.is_let_by()])

"""All orders of vouchers that are let by, and the best one of them, with a paper that shows it."""

from voucherstack.cutting import reach
from voucherstack.rules import Way


def orders(till, basket, hand):
    return [list(way.used) for way in ways_from(Way(till, basket, hand))]


def ways_from(way):
    """The ways that are let by, of this one and all that go on from it, in the order of lists."""
    found = [way] if way.is_let_by() else []
    # One that is not let by may be the beginning of one that is.
    for number in way.followers():
        found.extend(ways_from(way.behind(number)))
    return found


def best(till, basket, hand):
    way = Way(till, basket, hand)
    search = Search(way)
    search.meet(way)
    return (search.order, search.total, search.paper)


class Search:
    def __init__(self, way):
        # The empty order is the best one so far, as it is always let by.
        self.order = list(way.used)
        self.total = way.standing.whole()
        self.paper = []

    def meet(self, way):
        total = way.standing.whole()
        least = least_behind(way)
        self.paper.append((list(way.used), total, least))
        # Orders are met in the order of lists, so that of alike totals the first one met is to stay.
        if total < self.total and way.is_let_by():
            self.order = list(way.used)
            self.total = total
        if least < self.total:
            for number in way.followers():
                self.meet(way.behind(number))


def least_behind(way):
    """A total that no order can fall below which goes on from this way."""
    least = way.standing.whole()
    for number, voucher in enumerate(way.till.vouchers):
        least -= reach(voucher, way.till.parents, way.basket, way.standing) * many_to_come(way, number)
    return max(least, 0)


def many_to_come(way, number):
    many = way.hand[number] - way.used.count(number)
    if way.till.vouchers[number].marks.once:
        return 0 if number in way.used else min(many, 1)
    return many

"""What a basket costs by an order of vouchers, and what that is line by line."""

from voucherstack.cutting import cuts
from voucherstack.errors import NotLet
from voucherstack.rules import Way, fault
from voucherstack.wares import Standing


class Bill:
    def __init__(self, order, steps, standing):
        # Copies down to the lists within the steps, so that a bill shares no list with anything.
        self.order = list(order)
        self.steps = [(number, list(piece_cuts), carriage_cut) for number, piece_cuts, carriage_cut in steps]
        self.prices = list(standing.prices)
        self.carriage = standing.carriage
        self.total = standing.whole()


def priced(till, basket, hand, order):
    due = fault(till, basket, hand, order)
    if due is not None:
        raise NotLet(due[0], due[1])
    way = Way(till, basket, hand)
    steps = []
    for number in order:
        told = cuts(till.vouchers[number], till.parents, basket, way.standing)
        steps.append((number, told[0], told[1]))
        way = way.behind(number)
    return Bill(order, steps, way.standing)


def line_cuts(basket, bill):
    return [sums_by_line(basket, piece_cuts) for number, piece_cuts, carriage_cut in bill.steps]


def line_totals(basket, bill):
    return sums_by_line(basket, bill.prices)


def sums_by_line(basket, amounts):
    sums = [0 for line in basket.lines]
    for owner, amount in zip(Standing(basket).owners, amounts):
        sums[owner] += amount
    return sums

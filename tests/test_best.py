"""[17] best, and what [1] and [2] say of it."""

import unittest

from helper import (
    PARENTS, Numbers, ahead_in_lists, can_be_gone_on_with, least_by_words, made_hand, made_searches, made_till, seen,
    share_no_list, some_basket, standing_by,
)
from voucherstack.bills import priced
from voucherstack.rules import fault
from voucherstack.search import best, orders
from voucherstack.till import Till
from voucherstack.vouchers import Bundle, Carriage, Cheapest, Marks, Off, Share
from voucherstack.wares import Basket, Line

MOST = 10 ** 12


def a_hundred(carriage=0):
    """One piece of price 100."""
    return Basket([Line(1, 100, 1)], carriage)


def best_of(vouchers, hand, rules=(), basket=None):
    return best(Till(PARENTS, vouchers, list(rules)), basket or a_hundred(), hand)


class ByWords:
    """The words of [17], order by order."""

    def __init__(self, till, basket, hand):
        self.asked = (till, basket, hand)
        self.so_far = None
        self.paper = []
        self.meet([])

    def meet(self, order):
        till, basket, hand = self.asked
        total = standing_by(till, basket, order).whole()
        if fault(till, basket, hand, order) is None and (self.so_far is None or total < self.so_far[1]):
            self.so_far = (order, total)
        least = least_by_words(till, basket, hand, order)
        self.paper.append((order, total, least))
        if least >= self.so_far[1]:
            return
        for number in range(len(till.vouchers)):
            if can_be_gone_on_with(till, basket, hand, order + [number]):
                self.meet(order + [number])


class TheBest(unittest.TestCase):
    def test_nothing_held(self):
        self.assertEqual(best_of([Off(5)], [0]), ([], 100, [([], 100, 100)]))
        self.assertEqual(best_of([], []), ([], 100, [([], 100, 100)]))
        self.assertEqual(best(Till([], [], []), Basket([]), []), ([], 0, [([], 0, 0)]))

    def test_one_voucher(self):
        self.assertEqual(best_of([Off(30)], [1]), ([0], 70, [([], 100, 70), ([0], 70, 70)]))

    def test_the_order_matters(self):
        self.assertEqual(best_of([Off(30), Share(500)], [1, 1]), ([1, 0], 20, [
            ([], 100, 20), ([0], 70, 35), ([0, 1], 35, 35), ([1], 50, 20), ([1, 0], 20, 20),
        ]))

    def test_each_sort_together(self):
        vouchers = [Off(40), Share(100), Cheapest(3), Bundle(2, 150), Carriage()]
        till = Till(PARENTS, vouchers, [])
        told = best(till, some_basket(), [1, 1, 1, 1, 1])
        totals = [(priced(till, some_basket(), [1] * 5, order).total, order)
                  for order in orders(till, some_basket(), [1] * 5)]
        self.assertEqual(len(totals), 326)
        self.assertEqual((told[1], told[0]), min(totals))

    def test_with_carriage(self):
        told = best_of([Carriage(Marks(most=90)), Off(10)], [2, 1], basket=a_hundred(150))
        self.assertEqual(told[:2], ([0, 0, 1], 90))
        self.assertEqual(told[2][0], ([], 250, 60))

    def test_first_of_alike_totals(self):
        self.assertEqual(best_of([Off(10), Off(10)], [1, 1], [("never", 0, 1)])[:2], ([0], 90))
        self.assertEqual(best_of([Off(10), Off(20)], [1, 1])[:2], ([0, 1], 70))
        self.assertEqual(best_of([Off(5), Off(20), Off(20)], [0, 1, 1], [("never", 1, 2)])[:2], ([1], 80))
        self.assertEqual(best_of([Off(20), Off(20)], [1, 1], [("ahead", 1, 0)])[:2], ([1, 0], 60))

    def test_a_beginning_ahead_of_what_goes_on_from_it(self):
        # The bundle could reach all, but there are too few pieces for one.
        told = best_of([Bundle(20, 0), Off(10)], [1, 1])
        self.assertEqual(told, ([0, 1], 90, [
            ([], 100, 0), ([0], 100, 90), ([0, 1], 90, 90), ([1], 90, 0), ([1, 0], 90, 90),
        ]))
        self.assertEqual(best_of([Off(10), Bundle(20, 0)], [1, 1])[:2], ([0], 90))
        self.assertEqual(best_of([Bundle(20, 0)], [1]), ([], 100, [([], 100, 0), ([0], 100, 100)]))

    def test_same_voucher_in_the_till_twice(self):
        voucher = Off(10)
        self.assertEqual(best_of([voucher, voucher], [1, 1]), ([0, 1], 80, [
            ([], 100, 80), ([0], 90, 80), ([0, 1], 80, 80), ([1], 90, 80),
        ]))

    def test_hindrances(self):
        vouchers = [Off(90, Marks(member=True)), Off(80, Marks(kind=5)), Off(70, Marks(needs=101)), Off(1)]
        self.assertEqual(best_of(vouchers, [1, 1, 1, 1])[:2], ([3], 99))

    def test_largest(self):
        basket = Basket([Line(1, MOST, 20), Line(2, MOST, 20), Line(1, MOST, 20)], MOST)
        told = best_of([Off(MOST)], [5], basket=basket)
        self.assertEqual(told[:2], ([0] * 5, 56 * MOST))
        self.assertEqual(told[2], [([0] * many, (61 - many) * MOST, 56 * MOST) for many in range(6)])


class ThePaper(unittest.TestCase):
    def test_entries_in_the_order_in_which_they_are_met(self):
        # These bundles cut nothing, for want of pieces, but could reach all: so all orders are met.
        told = best_of([Bundle(20, 0)] * 3, [1, 1, 1])
        self.assertEqual([entry[0] for entry in told[2]], [
            [], [0], [0, 1], [0, 1, 2], [0, 2], [0, 2, 1], [1], [1, 0], [1, 0, 2], [1, 2], [1, 2, 0],
            [2], [2, 0], [2, 0, 1], [2, 1], [2, 1, 0],
        ])

    def test_least_never_below_0(self):
        self.assertEqual(best_of([Off(80), Off(70)], [1, 1]), ([0, 1], 0, [
            ([], 100, 0), ([0], 20, 0), ([0, 1], 0, 0), ([1], 30, 0),
        ]))
        self.assertEqual(best_of([Off(MOST)], [5]), ([0], 0, [([], 100, 0), ([0], 0, 0)]))

    def test_how_many_may_still_come(self):
        self.assertEqual(best_of([Off(10)], [3])[2], [
            ([], 100, 70), ([0], 90, 70), ([0, 0], 80, 70), ([0, 0, 0], 70, 70),
        ])

    def test_how_many_may_still_come_for_once(self):
        once = Off(10, Marks(once=True))
        self.assertEqual(best_of([once], [3])[2], [([], 100, 90), ([0], 90, 90)])
        self.assertEqual(best_of([once], [1])[2], [([], 100, 90), ([0], 90, 90)])
        self.assertEqual(best_of([once], [0])[2], [([], 100, 100)])
        self.assertEqual(best_of([once, Off(1)], [2, 2])[2], [
            ([], 100, 88), ([0], 90, 88), ([0, 1], 89, 88), ([0, 1, 1], 88, 88), ([1], 99, 88),
        ])

    def test_rules_and_hindrances_do_not_lessen_what_may_still_come(self):
        self.assertEqual(best_of([Off(10), Off(20, Marks(member=True))], [1, 1])[2], [([], 100, 70), ([0], 90, 70)])
        self.assertEqual(best_of([Off(10), Off(20)], [1, 1], [("never", 0, 1)])[2], [
            ([], 100, 70), ([0], 90, 70), ([1], 80, 70),
        ])

    def test_reach_in_the_standing_behind_the_order(self):
        told = best_of([Share(500), Off(60)], [2, 1])
        self.assertEqual(told[2][:3], [([], 100, 0), ([0], 50, 0), ([0, 0], 25, 0)])
        self.assertEqual(best_of([Share(500)], [2])[2], [([], 100, 0), ([0], 50, 25), ([0, 0], 25, 25)])

    def test_nothing_goes_on_where_least_is_the_best_total(self):
        self.assertEqual(best_of([Off(30), Off(10)], [1, 1]), ([0, 1], 60, [
            ([], 100, 60), ([0], 70, 60), ([0, 1], 60, 60), ([1], 90, 60),
        ]))
        self.assertEqual(best_of([Off(0)], [2]), ([], 100, [([], 100, 100)]))

    def test_nothing_goes_on_where_least_is_more_than_the_best_total(self):
        told = best_of([Off(50, Marks(lone=True)), Off(10, Marks(lone=True)), Off(5)], [1, 1, 1])
        self.assertEqual(told, ([0, 2], 45, [
            ([], 100, 35), ([0], 50, 45), ([0, 2], 45, 45), ([1], 90, 85), ([2], 95, 35), ([2, 0], 45, 45),
            ([2, 1], 85, 85),
        ]))

    def test_rules_among_three(self):
        told = best_of([Off(30), Off(10), Off(20)], [1, 1, 1], [("never", 1, 0), ("never", 1, 2), ("ahead", 0, 2)])
        self.assertEqual(told, ([0, 2], 50, [
            ([], 100, 40), ([0], 70, 40), ([0, 2], 50, 40), ([1], 90, 40), ([2], 80, 40),
        ]))

    def test_goes_on_where_least_is_one_less(self):
        told = best_of([Off(30), Off(10), Off(1, Marks(member=True))], [1, 1, 1])
        self.assertEqual(told, ([0, 1], 60, [
            ([], 100, 59), ([0], 70, 59), ([0, 1], 60, 59), ([1], 90, 59), ([1, 0], 60, 59),
        ]))

    def test_an_order_that_is_met_counts_for_its_own_going_on(self):
        # 90 is the best total as soon as [0] is met, and nothing can fall below 90 from there.
        told = best_of([Off(10), Carriage()], [1, 1])
        self.assertEqual(told, ([0], 90, [([], 100, 90), ([0], 90, 90), ([1], 100, 90)]))

    def test_what_only_can_be_gone_on_with(self):
        told = best_of([Off(50), Off(1)], [1, 0], [("only", 0, 1)])
        self.assertEqual(told, ([], 100, [([], 100, 50), ([0], 50, 50)]))
        told = best_of([Off(50), Off(1)], [1, 1], [("only", 0, 1)])
        self.assertEqual(told, ([0, 1], 49, [([], 100, 49), ([0], 50, 49), ([0, 1], 49, 49), ([1], 99, 49)]))
        told = best_of([Off(50), Off(1), Off(2)], [1, 0, 1], [("only", 0, 1)])
        self.assertEqual(told, ([2], 98, [
            ([], 100, 48), ([0], 50, 48), ([0, 2], 48, 48), ([2], 98, 48), ([2, 0], 48, 48),
        ]))

    def test_each_entry_is_as_promised(self):
        for till, basket, hand in made_searches(150):
            paper = best(till, basket, hand)[2]
            self.assertEqual(paper[0][0], [])
            for order, total, least in paper:
                self.assertTrue(can_be_gone_on_with(till, basket, hand, order))
                self.assertEqual(total, standing_by(till, basket, order).whole())
                self.assertEqual(least, least_by_words(till, basket, hand, order))
            for one, other in zip(paper, paper[1:]):
                self.assertTrue(ahead_in_lists(one[0], other[0]))


class Words(unittest.TestCase):
    def test_words_of_the_promise(self):
        lengths = {}
        only = 0
        for till, basket, hand in made_searches(300):
            told = best(till, basket, hand)
            expected = ByWords(till, basket, hand)
            self.assertEqual(told, expected.so_far + (expected.paper,), seen((till, basket, hand)))
            lengths[len(told[2])] = True
            only += len([entry for entry in told[2] if fault(till, basket, hand, entry[0]) is not None])
        self.assertGreater(len(lengths), 10)
        self.assertGreater(only, 10)

    def test_none_is_cheaper_and_none_alike_is_ahead(self):
        longest = 0
        for till, basket, hand in made_searches(300):
            order, total, paper = best(till, basket, hand)
            totals = [(priced(till, basket, hand, each).total, each) for each in orders(till, basket, hand)]
            self.assertEqual((total, order), min(totals), seen((till, basket, hand)))
            longest = max(longest, len(order))
        self.assertEqual(longest, 4)

    def test_5_held_in_all(self):
        numbers = Numbers(5)
        for case in range(10):
            till = made_till(numbers, 8)
            hand = made_hand(numbers, 8, 5)
            told = best(till, some_basket(), hand)
            expected = ByWords(till, some_basket(), hand)
            self.assertEqual(told, expected.so_far + (expected.paper,))


class KeptApart(unittest.TestCase):
    def test_what_is_handed_in_stays(self):
        for handed in made_searches(60):
            before = seen(handed)
            one = best(*handed)
            self.assertEqual(seen(handed), before)
            self.assertEqual(best(*handed), one)

    def test_no_list_is_shared(self):
        for handed in made_searches(60):
            self.assertTrue(share_no_list(handed, best(*handed), best(*handed)))

    def test_change_of_what_was_told_changes_no_other(self):
        till = Till(PARENTS, [Off(30), Share(500)], [])
        one, other = best(till, a_hundred(), [1, 1]), best(till, a_hundred(), [1, 1])
        before = seen(other)
        one[0].clear()
        for entry in one[2]:
            entry[0].append(7)
        one[2].clear()
        self.assertEqual(seen(other), before)
        self.assertEqual(seen(best(till, a_hundred(), [1, 1])), before)

    def test_change_of_the_order_does_not_reach_the_paper(self):
        order, total, paper = best_of([Off(30)], [1])
        order.append(7)
        self.assertEqual(paper, [([], 100, 70), ([0], 70, 70)])

    def test_by_name(self):
        told = best(hand=[1], basket=a_hundred(), till=Till(PARENTS, [Off(5)], []))
        self.assertEqual(told[:2], ([0], 95))

    def test_kinds(self):
        told = best_of([Off(30), Share(500)], [1, 1])
        self.assertEqual([type(each) for each in told], [list, int, list])
        self.assertIs(type(told), tuple)
        for entry in told[2]:
            self.assertIs(type(entry), tuple)
            self.assertEqual([type(each) for each in entry], [list, int, int])

    def test_back_does_not_matter(self):
        till = Till(PARENTS, [Off(30)], [], "shares")
        self.assertEqual(best(till, a_hundred(), [1])[:2], ([0], 70))


if __name__ == "__main__":
    unittest.main()

"""[18] holds, and what [1] and [2] say of it."""

import itertools
import unittest

from helper import (
    PARENTS, Numbers, ahead_in_lists, can_be_gone_on_with, least_by_words, made_hand, made_searches, made_till, seen,
    some_basket, standing_by,
)
from voucherstack.bills import priced
from voucherstack.papers import holds
from voucherstack.rules import fault
from voucherstack.search import best, orders
from voucherstack.till import Till
from voucherstack.vouchers import Bundle, Marks, Off, Share
from voucherstack.wares import Basket, Line


def a_hundred():
    """One piece of price 100."""
    return Basket([Line(1, 100, 1)])


def off_and_share():
    """A till, a basket and a hand: the share of 500 first, then the off of 30, is best, with 20."""
    return (Till(PARENTS, [Off(30), Share(500)], []), a_hundred(), [1, 1])


def its_paper():
    return [([], 100, 20), ([0], 70, 35), ([0, 1], 35, 35), ([1], 50, 20), ([1, 0], 20, 20)]


def entry_by_words(till, basket, hand, order):
    return (order, standing_by(till, basket, order).whole(), least_by_words(till, basket, hand, order))


def full_paper(till, basket, hand):
    """An entry for each order that can be gone on with, the shorter ones first."""
    paper = []
    for length in range(sum(hand) + 1):
        for order in itertools.product(range(len(till.vouchers)), repeat=length):
            if can_be_gone_on_with(till, basket, hand, list(order)):
                paper.append(entry_by_words(till, basket, hand, list(order)))
    return paper


def holds_by_words(till, basket, hand, order, total, paper):
    for entry in paper:
        if not can_be_gone_on_with(till, basket, hand, entry[0]):
            return False
        if entry != entry_by_words(till, basket, hand, entry[0]):
            return False
    there = [entry[0] for entry in paper]
    if [] not in there:
        return False
    for entry in paper:
        further = [entry[0] + [number] for number in range(len(till.vouchers))]
        wanted = [each for each in further if can_be_gone_on_with(till, basket, hand, each)]
        if entry[2] < total and [each for each in wanted if each not in there]:
            return False
    let_by = [entry for entry in paper if fault(till, basket, hand, entry[0]) is None]
    if (order, total) not in [entry[:2] for entry in let_by]:
        return False
    for entry in let_by:
        if entry[1] < total or entry[1] == total and ahead_in_lists(entry[0], order):
            return False
    return True


def changed_paper(numbers, till, paper):
    """A paper in which something is another at one place."""
    paper = list(paper)
    place = numbers.below(len(paper))
    order, total, least = paper[place]
    change = numbers.below(7)
    if change == 0:
        paper.pop(place)
    elif change == 1:
        paper[place] = (order, total + numbers.one_of([-1, 1]), least)
    elif change == 2:
        paper[place] = (order, total, least + numbers.one_of([-1, 1]))
    elif change == 3:
        paper.insert(place, (order + [numbers.below(len(till.vouchers))], total, least))
    elif change == 4:
        paper.insert(numbers.below(len(paper)), paper[place])
    elif change == 5:
        paper = [entry for entry in paper if entry[2] <= least]
    return paper


class Shown(unittest.TestCase):
    def check_all(self, till, basket, hand):
        order, total, paper = best(till, basket, hand)
        full = full_paper(till, basket, hand)
        for each in (paper, paper[::-1], paper + paper[-1:], paper[:1] + paper, paper + paper, full, full[::-1]):
            self.assertIs(holds(till, basket, hand, order, total, each), True, seen((till, basket, hand, each)))

    def test_a_paper_by_hand(self):
        self.assertIs(holds(*off_and_share(), [1, 0], 20, its_paper()), True)

    def test_the_paper_that_best_tells(self):
        self.check_all(*off_and_share())
        self.check_all(Till([], [], []), Basket([]), [])
        self.check_all(Till(PARENTS, [Off(5)], []), some_basket(), [0])
        self.check_all(Till(PARENTS, [Off(50), Off(1)], [("only", 0, 1)]), a_hundred(), [1, 1])
        self.check_all(Till(PARENTS, [Off(50), Off(1)], [("only", 0, 1)]), a_hundred(), [1, 0])
        self.check_all(Till(PARENTS, [Off(9, Marks(once=True)), Bundle(20, 0)], []), a_hundred(), [2, 2])

    def test_the_paper_of_many_cases(self):
        for till, basket, hand in made_searches(120):
            self.check_all(till, basket, hand)

    def test_5_held_in_all(self):
        self.check_all(Till(PARENTS, [Off(9), Share(90)] * 2 + [Off(5)], []), some_basket(), [1] * 5)

    def test_entries_that_are_not_wanted_may_be_missing(self):
        till = Till(PARENTS, [Off(30), Off(10)], [])
        paper = [([], 100, 60), ([0], 70, 60), ([0, 1], 60, 60), ([1], 90, 60), ([1, 0], 60, 60)]
        for wanted in ([0, 1, 2, 3, 4], [0, 1, 2, 3], [0, 1, 2], [0, 2], [2, 0]):
            some = [paper[place] for place in wanted]
            self.assertIs(holds(till, a_hundred(), [1, 1], [0, 1], 60, some), True, wanted)

    def test_alike_total_where_the_first_one_is_not_an_entry(self):
        till = Till(PARENTS, [Off(30), Off(10)], [])
        self.assertIs(holds(till, a_hundred(), [1, 1], [1, 0], 60, [([], 100, 60), ([1, 0], 60, 60)]), True)

    def test_of_an_entry_of_alike_least_nothing_need_go_on(self):
        till = Till(PARENTS, [Off(30)], [])
        self.assertIs(holds(till, a_hundred(), [1], [0], 70, [([], 100, 70), ([0], 70, 70)]), True)
        nothing = Till(PARENTS, [Off(0)], [])
        self.assertIs(holds(nothing, a_hundred(), [1], [], 100, [([], 100, 100)]), True)


class NotShown(unittest.TestCase):
    def check_false(self, order, total, paper):
        self.assertIs(holds(*off_and_share(), order, total, paper), False, (order, total, paper))

    def test_empty_paper(self):
        self.check_false([1, 0], 20, [])
        self.check_false([], 100, [])
        self.assertIs(holds(Till([], [], []), Basket([]), [], [], 0, []), False)

    def test_a_total_one_more_or_one_less(self):
        for place in range(5):
            for change in (-1, 1):
                paper = its_paper()
                order, total, least = paper[place]
                paper[place] = (order, total + change, least)
                self.check_false([1, 0], 20, paper)

    def test_a_least_one_more_or_one_less(self):
        for place in range(5):
            for change in (-1, 1):
                paper = its_paper()
                order, total, least = paper[place]
                paper[place] = (order, total, least + change)
                self.check_false([1, 0], 20, paper)

    def test_one_of_two_alike_entries_wrong(self):
        for wrong in (([0], 70, 34), ([0], 71, 35)):
            self.check_false([1, 0], 20, its_paper() + [wrong])
            self.check_false([1, 0], 20, [wrong] + its_paper())

    def test_a_least_below_0_or_of_0_is_not_one(self):
        till = Till(PARENTS, [Off(80), Off(70)], [])
        right = [([], 100, 0), ([0], 20, 0), ([0, 1], 0, 0)]
        self.assertIs(holds(till, a_hundred(), [1, 1], [0, 1], 0, right), True)
        self.assertIs(holds(till, a_hundred(), [1, 1], [0, 1], 0, [([], 100, -50)] + right[1:]), False)

    def test_the_empty_order_left_out(self):
        self.check_false([1, 0], 20, its_paper()[1:])
        till = Till(PARENTS, [Off(30)], [])
        self.assertIs(holds(till, a_hundred(), [1], [0], 70, [([0], 70, 70)]), False)

    def test_an_order_left_out_that_goes_on_from_an_entry_of_lesser_least(self):
        basket = a_hundred()
        till = Till(PARENTS, [Off(30), Off(10), Off(1, Marks(member=True))], [])
        paper = [([], 100, 59), ([0], 70, 59), ([0, 1], 60, 59), ([1], 90, 59), ([1, 0], 60, 59)]
        self.assertEqual(best(till, basket, [1, 1, 1])[2], paper)
        self.assertIs(holds(till, basket, [1, 1, 1], [0, 1], 60, paper), True)
        for place in range(5):
            self.assertIs(holds(till, basket, [1, 1, 1], [0, 1], 60, paper[:place] + paper[place + 1:]), False)

    def test_left_out_where_total_is_more_than_the_best_one(self):
        self.check_false([0, 1], 35, its_paper()[:3])
        self.check_false([0, 1], 35, its_paper()[:4])
        self.check_false([], 100, its_paper()[:1])

    def test_an_only_order_left_out(self):
        till = Till(PARENTS, [Off(50), Off(1), Off(2)], [("only", 0, 1)])
        paper = [([], 100, 48), ([0], 50, 48), ([0, 2], 48, 48), ([2], 98, 48), ([2, 0], 48, 48)]
        self.assertIs(holds(till, a_hundred(), [1, 0, 1], [2], 98, paper), True)
        for place in range(5):
            some = paper[:place] + paper[place + 1:]
            self.assertIs(holds(till, a_hundred(), [1, 0, 1], [2], 98, some), False, place)

    def test_an_entry_that_cannot_be_gone_on_with(self):
        for wrong in (([0, 0], 40, 40), ([0, 0], 70, 35), ([1, 0, 1], 10, 10), ([1, 0, 1], 20, 20), ([0] * 8, 0, 0)):
            self.check_false([1, 0], 20, its_paper() + [wrong])
        till = Till(PARENTS, [Off(30), Share(500)], [("ahead", 1, 0)])
        paper = best(till, a_hundred(), [1, 1])[2]
        self.assertIs(holds(till, a_hundred(), [1, 1], [1, 0], 20, paper), True)
        self.assertIs(holds(till, a_hundred(), [1, 1], [1, 0], 20, paper + [([0, 1], 35, 35)]), False)

    def test_an_entry_with_a_hindrance(self):
        till = Till(PARENTS, [Off(30), Off(10, Marks(member=True))], [])
        paper = [([], 100, 60), ([0], 70, 60)]
        self.assertIs(holds(till, a_hundred(), [1, 1], [0], 70, paper), True)
        self.assertIs(holds(till, a_hundred(), [1, 1], [0], 70, paper + [([1], 90, 60)]), False)
        self.assertIs(holds(till, a_hundred(), [1, 1], [0, 1], 60, paper + [([0, 1], 60, 60)]), False)

    def test_another_order_or_total(self):
        for order, total in (([0, 1], 20), ([], 20), ([1, 0], 19), ([1, 0], 21), ([1, 0], 35), ([0, 1], 35),
                             ([1], 50), ([0], 70), ([], 100)):
            self.check_false(order, total, its_paper())

    def test_no_entrys_order_or_total(self):
        self.check_false([0, 0], 20, its_paper())
        self.check_false([1, 0, 1], 20, its_paper())
        self.check_false([1, 0], 0, its_paper())
        self.check_false([1, 0], -1, its_paper())
        self.check_false([1, 0], 20, its_paper()[:4])

    def test_an_entrys_that_is_not_let_by(self):
        till = Till(PARENTS, [Off(50), Off(1)], [("only", 0, 1)])
        paper = [([], 100, 50), ([0], 50, 50)]
        self.assertIs(holds(till, a_hundred(), [1, 0], [], 100, paper), True)
        self.assertIs(holds(till, a_hundred(), [1, 0], [0], 50, paper), False)

    def test_alike_total_but_not_the_first(self):
        till = Till(PARENTS, [Off(30), Off(10)], [])
        paper = full_paper(till, a_hundred(), [1, 1])
        self.assertIs(holds(till, a_hundred(), [1, 1], [0, 1], 60, paper), True)
        self.assertIs(holds(till, a_hundred(), [1, 1], [1, 0], 60, paper), False)
        nothing = Till(PARENTS, [Off(0)], [])
        paper = full_paper(nothing, a_hundred(), [1])
        self.assertIs(holds(nothing, a_hundred(), [1], [], 100, paper), True)
        self.assertIs(holds(nothing, a_hundred(), [1], [0], 100, paper), False)

    def test_a_paper_of_another_basket_hand_or_till(self):
        till, basket, hand = off_and_share()
        self.assertIs(holds(till, Basket([Line(1, 101, 1)]), hand, [1, 0], 20, its_paper()), False)
        self.assertIs(holds(till, basket, [2, 1], [1, 0], 20, its_paper()), False)
        self.assertIs(holds(till, basket, [1, 0], [1, 0], 20, its_paper()), False)
        self.assertIs(holds(Till(PARENTS, [Off(31), Share(500)], []), basket, hand, [1, 0], 20, its_paper()), False)


class Words(unittest.TestCase):
    def test_words_of_the_promise(self):
        numbers = Numbers(18)
        told = {True: 0, False: 0}
        for till, basket, hand in made_searches(250):
            order, total, paper = best(till, basket, hand)
            for case in range(6):
                one = changed_paper(numbers, till, numbers.one_of([paper, full_paper(till, basket, hand)]))
                entry = numbers.one_of([(order, total), (order, total), numbers.one_of(paper)])
                asked = (till, basket, hand, entry[0], entry[1], one)
                expected = holds_by_words(*asked)
                self.assertIs(holds(*asked), expected, seen(asked))
                told[expected] += 1
        self.assertGreater(min(told.values()), 100)

    def test_where_it_is_true_none_is_cheaper(self):
        numbers = Numbers(19)
        many = 0
        for case in range(40):
            till = made_till(numbers, 3)
            hand = made_hand(numbers, 3, 3)
            full = full_paper(till, some_basket(), hand)
            totals = [priced(till, some_basket(), hand, order).total for order in orders(till, some_basket(), hand)]
            for order, total, least in full:
                for paper in (full, full[:1 + numbers.below(len(full))], best(till, some_basket(), hand)[2]):
                    if holds(till, some_basket(), hand, order, total, paper):
                        self.assertEqual(total, min(totals))
                        many += 1
        self.assertGreater(many, 40)


class KeptApart(unittest.TestCase):
    def test_what_is_handed_in_stays(self):
        for handed in made_searches(60):
            order, total, paper = best(*handed)
            for asked in (handed + (order, total, paper), handed + (order, total + 1, paper[::-1])):
                before = seen(asked)
                one = holds(*asked)
                self.assertEqual(seen(asked), before)
                self.assertIs(holds(*asked), one)

    def test_one_list_for_several_entries(self):
        order = [0]
        till = Till(PARENTS, [Off(30)], [])
        paper = [([], 100, 70), (order, 70, 70), (order, 70, 70)]
        self.assertIs(holds(till, a_hundred(), [1], order, 70, paper), True)

    def test_by_name(self):
        till, basket, hand = off_and_share()
        told = holds(paper=its_paper(), total=20, order=[1, 0], hand=hand, basket=basket, till=till)
        self.assertIs(told, True)

    def test_none_may_be_left_out(self):
        with self.assertRaises(TypeError):
            holds(*off_and_share(), [1, 0], 20)


if __name__ == "__main__":
    unittest.main()

"""[13] fault, and what [1], [2] and [12] say of it."""

import itertools
import unittest

from helper import PARENTS, Numbers, behind, made_basket, made_voucher, seen
from voucherstack.cutting import hindrance
from voucherstack.rules import fault
from voucherstack.till import Till
from voucherstack.vouchers import Bundle, Carriage, Cheapest, Marks, Off, Share
from voucherstack.wares import Basket, Line


def some_basket(member=False):
    return Basket([Line(2, 100, 2), Line(4, 50, 1), Line(1, 30, 3)], 490, member)


def plain_till(rules=(), many=4):
    """Vouchers that nothing but the rules and the hand can hinder."""
    return Till(PARENTS, [Off(number) for number in range(many)], list(rules))


def fault_of(till, order, held=5, basket=None):
    return fault(till, basket or some_basket(), [held] * len(till.vouchers), order)


def words_due(till, basket, hand, order, place):
    """All words of [13] that are due at a place, in their order, but "only"."""
    v = order[place]
    ahead = order[:place]
    due = []
    if len([u for u in order[:place + 1] if u == v]) > hand[v]:
        due.append("held")
    if till.vouchers[v].marks.once and v in ahead:
        due.append("once")
    if [u for u in ahead if ("never", u, v) in till.rules or ("never", v, u) in till.rules]:
        due.append("never")
    if [u for u in ahead if ("ahead", v, u) in till.rules]:
        due.append("ahead")
    standing = behind([till.vouchers[u] for u in ahead], till.parents, basket)
    word = hindrance(till.vouchers[v], till.parents, basket, standing)
    return due + [word] if word is not None else due


def fault_by_words(till, basket, hand, order):
    for place in range(len(order)):
        due = words_due(till, basket, hand, order, place)
        if due:
            return (place, due[0])
    if [rule for rule in till.rules if rule[0] == "only" and rule[1] in order and rule[2] not in order]:
        return (len(order), "only")
    return None


class NoFault(unittest.TestCase):
    def test_empty_order(self):
        self.assertIsNone(fault_of(plain_till(), []))
        self.assertIsNone(fault(Till([], [], []), Basket([]), [], []))
        rules = [(word, one, other) for word in ("only", "never", "ahead") for one in (0, 1) for other in (0, 1)]
        self.assertIsNone(fault_of(plain_till(rules), [], held=0))

    def test_ordinary(self):
        self.assertIsNone(fault_of(plain_till(), [0]))
        self.assertIsNone(fault_of(plain_till(), [2, 0, 3, 1]))
        self.assertIsNone(fault_of(plain_till(), [1, 1, 0, 1, 0, 1, 1]))

    def test_each_sort(self):
        vouchers = [Off(10), Share(100), Share(100, True), Cheapest(2), Bundle(2, 50), Carriage()]
        self.assertIsNone(fault_of(Till(PARENTS, vouchers, []), [0, 1, 2, 3, 4, 5]))

    def test_vouchers_that_cut_nothing_can_be_used(self):
        till = Till(PARENTS, [Off(1000), Carriage(), Cheapest(20)], [])
        self.assertIsNone(fault_of(till, [0, 0, 1, 1, 2, 2]))

    def test_8_vouchers(self):
        self.assertIsNone(fault_of(plain_till(many=8), [7, 6, 5, 4, 3, 2, 1, 0]))


class Held(unittest.TestCase):
    def test_0_held(self):
        self.assertEqual(fault(plain_till(), some_basket(), [1, 0, 1, 1], [1]), (0, "held"))
        self.assertEqual(fault(plain_till(), some_basket(), [1, 0, 1, 1], [0, 2, 1]), (2, "held"))

    def test_1_held(self):
        self.assertIsNone(fault_of(plain_till(), [1], held=1))
        self.assertEqual(fault_of(plain_till(), [1, 1], held=1), (1, "held"))
        self.assertEqual(fault_of(plain_till(), [1, 0, 2, 1], held=1), (3, "held"))

    def test_more_than_one_held(self):
        self.assertIsNone(fault(plain_till(), some_basket(), [0, 2, 0, 0], [1, 1]))
        self.assertEqual(fault(plain_till(), some_basket(), [0, 2, 0, 0], [1, 1, 1]), (2, "held"))
        self.assertIsNone(fault_of(plain_till(), [3, 3, 3, 3, 3], held=5))
        self.assertEqual(fault_of(plain_till(), [3, 3, 3, 3, 3, 3], held=5), (5, "held"))

    def test_each_by_its_own_number(self):
        voucher = Off(5)
        till = Till(PARENTS, [voucher, voucher], [])
        self.assertIsNone(fault(till, some_basket(), [1, 1], [0, 1]))
        self.assertEqual(fault(till, some_basket(), [1, 1], [0, 0]), (1, "held"))
        self.assertEqual(fault(till, some_basket(), [2, 0], [0, 1]), (1, "held"))

    def test_what_comes_later_does_not_count(self):
        self.assertEqual(fault(plain_till(), some_basket(), [1, 1, 0, 1], [0, 2, 0]), (1, "held"))


class Once(unittest.TestCase):
    def test_second_use(self):
        till = Till(PARENTS, [Off(5, Marks(once=True)), Off(6)], [])
        self.assertIsNone(fault_of(till, [0]))
        self.assertIsNone(fault_of(till, [1, 1, 0, 1]))
        self.assertEqual(fault_of(till, [0, 0]), (1, "once"))
        self.assertEqual(fault_of(till, [1, 0, 1, 0, 0]), (3, "once"))

    def test_same_voucher_under_two_numbers(self):
        voucher = Off(5, Marks(once=True))
        till = Till(PARENTS, [voucher, voucher], [])
        self.assertIsNone(fault_of(till, [0, 1]))
        self.assertEqual(fault_of(till, [0, 1, 0]), (2, "once"))


class Never(unittest.TestCase):
    def test_both_ways_round(self):
        for rule in (("never", 0, 1), ("never", 1, 0)):
            till = plain_till([rule])
            self.assertEqual(fault_of(till, [0, 1]), (1, "never"))
            self.assertEqual(fault_of(till, [1, 0]), (1, "never"))
            self.assertEqual(fault_of(till, [0, 2, 0, 1]), (3, "never"))
            self.assertIsNone(fault_of(till, [0, 0, 2]))
            self.assertIsNone(fault_of(till, [1, 2, 1]))

    def test_a_voucher_and_itself(self):
        till = plain_till([("never", 1, 1)])
        self.assertIsNone(fault_of(till, [1]))
        self.assertIsNone(fault_of(till, [0, 1, 0, 2]))
        self.assertEqual(fault_of(till, [1, 1]), (1, "never"))
        self.assertEqual(fault_of(till, [1, 0, 1]), (2, "never"))

    def test_any_of_several_rules(self):
        till = plain_till([("never", 2, 3), ("never", 0, 3)])
        self.assertEqual(fault_of(till, [0, 1, 2, 3]), (3, "never"))
        self.assertEqual(fault_of(till, [0, 3]), (1, "never"))
        self.assertEqual(fault_of(till, [3, 2]), (1, "never"))
        self.assertIsNone(fault_of(till, [0, 2, 1]))


class Ahead(unittest.TestCase):
    def test_one_way_round(self):
        till = plain_till([("ahead", 0, 1)])
        self.assertIsNone(fault_of(till, [0, 1]))
        self.assertIsNone(fault_of(till, [0, 0, 2, 1, 1]))
        self.assertEqual(fault_of(till, [1, 0]), (1, "ahead"))
        self.assertEqual(fault_of(till, [0, 1, 0]), (2, "ahead"))
        self.assertEqual(fault_of(till, [1, 2, 3, 0]), (3, "ahead"))
        self.assertIsNone(fault_of(till, [1]))
        self.assertIsNone(fault_of(till, [0]))

    def test_a_voucher_and_itself(self):
        till = plain_till([("ahead", 1, 1)])
        self.assertIsNone(fault_of(till, [0, 1, 0]))
        self.assertEqual(fault_of(till, [1, 1]), (1, "ahead"))
        self.assertEqual(fault_of(till, [1, 2, 1]), (2, "ahead"))

    def test_both_ways_round_by_two_rules(self):
        till = plain_till([("ahead", 0, 1), ("ahead", 1, 0)])
        self.assertEqual(fault_of(till, [0, 1]), (1, "ahead"))
        self.assertEqual(fault_of(till, [1, 0]), (1, "ahead"))


class Hindrances(unittest.TestCase):
    def test_each_at_first(self):
        till = Till(PARENTS, [Off(5, Marks(member=True)), Off(5, Marks(kind=5)), Off(5, Marks(needs=341))], [])
        self.assertEqual(fault_of(till, [0]), (0, "member"))
        self.assertEqual(fault_of(till, [1]), (0, "nothing"))
        self.assertEqual(fault_of(till, [2]), (0, "needs"))
        self.assertIsNone(fault_of(till, [0], basket=some_basket(True)))

    def test_needs_that_those_ahead_have_left(self):
        till = Till(PARENTS, [Off(40), Off(5, Marks(needs=300)), Off(1)], [])
        self.assertIsNone(fault_of(till, [1]))
        self.assertIsNone(fault_of(till, [0, 1]))
        self.assertIsNone(fault_of(till, [1, 2, 1]))
        self.assertEqual(fault_of(till, [0, 2, 1]), (2, "needs"))
        self.assertEqual(fault_of(till, [0, 1, 1]), (2, "needs"))
        self.assertEqual(fault_of(till, [1, 0, 1]), (2, "needs"))

    def test_nothing_that_those_ahead_have_left(self):
        till = Till(PARENTS, [Off(5, Marks(kind=3, lone=True)), Off(9, Marks(lone=True)), Off(9)], [])
        self.assertIsNone(fault_of(till, [0, 1]))
        self.assertEqual(fault_of(till, [1, 0]), (1, "nothing"))
        self.assertEqual(fault_of(till, [0, 0]), (1, "nothing"))
        self.assertEqual(fault_of(till, [0, 1, 1]), (2, "nothing"))
        self.assertIsNone(fault_of(till, [2, 0, 1, 2]))

    def test_pieces_of_price_0_are_still_there(self):
        till = Till(PARENTS, [Off(1000), Off(5, Marks(kind=3)), Off(5, Marks(needs=1))], [])
        self.assertIsNone(fault_of(till, [0, 1]))
        self.assertEqual(fault_of(till, [0, 2]), (1, "needs"))

    def test_kinds_of_the_till(self):
        vouchers = [Off(5, Marks(kind=0))]
        basket = Basket([Line(1, 10, 1)])
        self.assertIsNone(fault(Till([None, 0], vouchers, []), basket, [1], [0]))
        self.assertEqual(fault(Till([None, None], vouchers, []), basket, [1], [0]), (0, "nothing"))


class Only(unittest.TestCase):
    def test_the_length_of_the_order(self):
        till = plain_till([("only", 0, 1)])
        self.assertEqual(fault_of(till, [0]), (1, "only"))
        self.assertEqual(fault_of(till, [2, 0, 3]), (3, "only"))
        self.assertEqual(fault_of(till, [0, 0]), (2, "only"))

    def test_with_the_other_in_the_order(self):
        till = plain_till([("only", 0, 1)])
        self.assertIsNone(fault_of(till, [0, 1]))
        self.assertIsNone(fault_of(till, [1, 0]))
        self.assertIsNone(fault_of(till, [0, 2, 0, 1]))

    def test_without_the_one_in_the_order(self):
        till = plain_till([("only", 0, 1)])
        self.assertIsNone(fault_of(till, [1]))
        self.assertIsNone(fault_of(till, [2, 3]))

    def test_a_voucher_and_itself_is_never_due(self):
        till = plain_till([("only", 1, 1)])
        for order in ([], [0], [1], [1, 1], [0, 1, 2]):
            self.assertIsNone(fault_of(till, order))

    def test_any_of_several_rules(self):
        till = plain_till([("only", 0, 1), ("only", 0, 2)])
        self.assertEqual(fault_of(till, [0, 1]), (2, "only"))
        self.assertEqual(fault_of(till, [2, 0]), (2, "only"))
        self.assertIsNone(fault_of(till, [2, 0, 1]))

    def test_only_where_all_can_be_used(self):
        till = Till(PARENTS, [Off(5), Off(5, Marks(kind=5)), Off(5)], [("only", 0, 2)])
        self.assertEqual(fault_of(till, [0, 1]), (1, "nothing"))
        self.assertEqual(fault(till, some_basket(), [1, 1, 1], [0, 0]), (1, "held"))
        self.assertEqual(fault_of(till, [0]), (1, "only"))


class FirstPlaceAndFirstWord(unittest.TestCase):
    def test_first_place(self):
        till = plain_till([("never", 0, 1), ("ahead", 2, 3)])
        self.assertEqual(fault_of(till, [0, 3, 2, 1]), (2, "ahead"))
        self.assertEqual(fault_of(till, [0, 3, 1, 2]), (2, "never"))
        self.assertEqual(fault(till, some_basket(), [1, 1, 0, 1], [2, 0, 1]), (0, "held"))

    def test_first_word(self):
        marks = Marks(needs=340, once=True)
        rules = [("ahead", 0, 0), ("never", 0, 0)]
        for hand, kept, word in (
            ([1], (marks, rules), "held"),
            ([2], (marks, rules), "once"),
            ([2], (Marks(needs=340), rules), "never"),
            ([2], (Marks(needs=340), rules[:1]), "ahead"),
            ([2], (Marks(needs=340), []), "needs"),
            ([1], (Marks(needs=340), []), "held"),
            ([1], (Marks(once=True), []), "held"),
            ([1], (Marks(), rules), "held"),
            ([2], (Marks(once=True), rules[:1]), "once"),
            ([2], (marks, []), "once"),
        ):
            till = Till(PARENTS, [Off(5, kept[0])], kept[1])
            self.assertEqual(fault(till, some_basket(), hand, [0, 0]), (1, word))

    def test_held_ahead_of_a_hindrance_at_first(self):
        till = Till(PARENTS, [Off(5, Marks(kind=5, needs=999, member=True))], [])
        self.assertEqual(fault(till, some_basket(), [0], [0]), (0, "held"))
        self.assertEqual(fault(till, some_basket(), [1], [0]), (0, "member"))
        self.assertEqual(fault(till, some_basket(True), [1], [0]), (0, "nothing"))

    def test_words_of_the_promise_for_each_short_order(self):
        numbers = Numbers(13)
        told = {}
        for case in range(60):
            vouchers = [made_voucher(numbers) for place in range(3)]
            rules = []
            for place in range(numbers.below(4)):
                rules.append((numbers.one_of(["only", "never", "ahead"]), numbers.below(3), numbers.below(3)))
            till = Till(PARENTS, vouchers, rules)
            basket = made_basket(numbers)
            hand = [numbers.below(4) for place in range(3)]
            for many in range(4):
                for order in itertools.product(range(3), repeat=many):
                    expected = fault_by_words(till, basket, hand, list(order))
                    self.assertEqual(fault(till, basket, hand, list(order)), expected, seen(till))
                    told[expected and expected[1]] = True
        self.assertEqual(set(told), {None, "held", "once", "never", "ahead", "member", "nothing", "needs", "only"})


class KeptApart(unittest.TestCase):
    def test_what_is_handed_in_stays(self):
        vouchers = [Off(5, Marks(lone=True)), Share(100, True), Carriage(), Off(5, Marks(once=True))]
        for rules in ([], [("only", 0, 1)], [("never", 0, 1), ("ahead", 2, 0)]):
            for order in ([], [0], [0, 1], [1, 0, 2, 3], [3, 3], [2, 0]):
                handed = (Till(PARENTS, vouchers, rules), some_basket(), [2, 2, 2, 2], order)
                before = seen(handed)
                one = fault(*handed)
                self.assertEqual(seen(handed), before)
                self.assertEqual(fault(*handed), one)

    def test_later_change_of_what_the_till_was_made_of(self):
        parents, vouchers, rules = [None, 0], [Off(5, Marks(kind=0))], []
        till = Till(parents, vouchers, rules)
        basket = Basket([Line(1, 10, 1)])
        parents[1] = None
        vouchers[0] = Off(5, Marks(member=True))
        rules.append(("never", 0, 0))
        self.assertIsNone(fault(till, basket, [2], [0, 0]))

    def test_by_name(self):
        told = fault(order=[1], hand=[1, 0, 1, 1], basket=some_basket(), till=plain_till())
        self.assertEqual(told, (0, "held"))

    def test_kinds(self):
        self.assertEqual(seen(fault_of(plain_till(), [0], held=0)), seen((0, "held")))
        self.assertEqual(seen(fault_of(plain_till([("only", 0, 1)]), [0])), seen((1, "only")))
        self.assertEqual(seen(fault_of(plain_till([("never", 0, 0)]), [0, 0])), seen((1, "never")))

    def test_back_does_not_matter(self):
        for back in ("again", "shares"):
            till = Till(PARENTS, [Off(5), Off(6)], [("ahead", 0, 1)], back)
            self.assertEqual(fault_of(till, [1, 0]), (1, "ahead"))

    def test_20_rules_and_somewhat_more(self):
        for many in (20, 21):
            till = plain_till([("only", 0, 0)] * (many - 1) + [("never", 0, 1)])
            self.assertEqual(fault_of(till, [0, 1]), (1, "never"))


if __name__ == "__main__":
    unittest.main()

"""[12] Till, and what [1] and [2] say of it."""

import unittest

from helper import seen, share_no_list
from voucherstack.till import Till
from voucherstack.vouchers import Carriage, Marks, Off, Share


def till_fields(till):
    return (till.parents, till.vouchers, till.rules, till.back)


def some_lists():
    parents = [None, 0, None]
    vouchers = [Off(5), Share(100, True, Marks(kind=1)), Carriage()]
    rules = [("only", 0, 1), ("never", 1, 2), ("ahead", 2, 2)]
    return parents, vouchers, rules


class TillFields(unittest.TestCase):
    def test_by_place(self):
        parents, vouchers, rules = some_lists()
        for back in ("again", "shares"):
            self.assertEqual(till_fields(Till(parents, vouchers, rules, back)), (parents, vouchers, rules, back))

    def test_by_name(self):
        parents, vouchers, rules = some_lists()
        for back in ("again", "shares"):
            till = Till(back=back, rules=rules, vouchers=vouchers, parents=parents)
            self.assertEqual(till_fields(till), (parents, vouchers, rules, back))

    def test_back_left_out(self):
        parents, vouchers, rules = some_lists()
        self.assertEqual(till_fields(Till(parents, vouchers, rules)), (parents, vouchers, rules, "again"))

    def test_none_but_back_may_be_left_out(self):
        for given in ({"vouchers": [], "rules": []}, {"parents": [], "rules": []}, {"parents": [], "vouchers": []}):
            with self.assertRaises(TypeError):
                Till(**given)

    def test_empty_lists(self):
        self.assertEqual(till_fields(Till([], [], [])), ([], [], [], "again"))

    def test_kinds(self):
        till = Till(*some_lists())
        for told in (till.parents, till.vouchers, till.rules):
            self.assertIs(type(told), list)
        for rule in till.rules:
            self.assertIs(type(rule), tuple)
        self.assertIs(type(till.back), str)

    def test_keeps_the_same_vouchers(self):
        parents, vouchers, rules = some_lists()
        for kept, handed in zip(Till(parents, vouchers, rules).vouchers, vouchers):
            self.assertIs(kept, handed)

    def test_same_voucher_twice(self):
        voucher = Off(5)
        till = Till([None], [voucher, voucher], [])
        self.assertEqual(len(till.vouchers), 2)
        self.assertIs(till.vouchers[0], voucher)
        self.assertIs(till.vouchers[1], voucher)

    def test_bounds_and_somewhat_beyond(self):
        for kinds, vouchers, rules in ((20, 8, 20), (21, 9, 21)):
            till = Till([None] * kinds, [Off(5)] * vouchers, [("only", 0, 1)] * rules)
            self.assertEqual((len(till.parents), len(till.vouchers), len(till.rules)), (kinds, vouchers, rules))


class TillKeepsToItself(unittest.TestCase):
    def test_later_change_of_a_handed_list(self):
        parents, vouchers, rules = some_lists()
        till = Till(parents, vouchers, rules)
        before = seen(till)
        parents.append(0)
        parents[1] = None
        vouchers[0] = Off(99)
        vouchers.append(Carriage())
        rules[0] = ("never", 0, 0)
        rules.clear()
        self.assertEqual(seen(till), before)

    def test_later_change_of_handed_empty_lists(self):
        parents, vouchers, rules = [], [], []
        till = Till(parents, vouchers, rules)
        parents.append(None)
        vouchers.append(Off(5))
        rules.append(("only", 0, 0))
        self.assertEqual(till_fields(till), ([], [], [], "again"))

    def test_handed_lists_stay(self):
        handed = some_lists()
        before = seen(handed)
        Till(*handed)
        self.assertEqual(seen(handed), before)

    def test_two_tills_share_no_list(self):
        handed = some_lists()
        one, other = Till(*handed), Till(*handed)
        self.assertTrue(share_no_list(one, other, handed))
        self.assertTrue(share_no_list(one, Till(one.parents, one.vouchers, one.rules)))

    def test_one_list_handed_in_thrice(self):
        empty = []
        self.assertTrue(share_no_list(Till(empty, empty, empty), empty))


if __name__ == "__main__":
    unittest.main()

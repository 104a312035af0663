"""[7] Marks and the sorts of voucher, and what [1] and [2] say of them."""

import unittest

from helper import seen, share_no_list
from voucherstack.vouchers import Bundle, Carriage, Cheapest, Marks, Off, Share, Voucher

MOST = 10 ** 12
SORTS = [Off, Share, Cheapest, Bundle, Carriage]
LEFT_OUT = (None, 0, None, False, False, False)


def marks_fields(marks):
    return (marks.kind, marks.needs, marks.most, marks.member, marks.once, marks.lone)


def without_marks():
    return [Off(5), Share(100), Cheapest(3), Bundle(3, 500), Carriage()]


def with_marks(marks):
    """Each sort with these marks by their name, then each with them by their place."""
    by_name = [Off(5, marks=marks), Share(100, marks=marks), Cheapest(3, marks=marks), Bundle(3, 500, marks=marks),
               Carriage(marks=marks)]
    by_place = [Off(5, marks), Share(100, True, marks), Cheapest(3, marks), Bundle(3, 500, marks), Carriage(marks)]
    return by_name + by_place


class MarksFields(unittest.TestCase):
    def test_by_place(self):
        self.assertEqual(marks_fields(Marks(4, 500, 200, True, False, True)), (4, 500, 200, True, False, True))
        self.assertEqual(marks_fields(Marks(1, 2, 3, False, True, False)), (1, 2, 3, False, True, False))

    def test_by_name(self):
        marks = Marks(lone=True, once=False, member=True, most=200, needs=500, kind=4)
        self.assertEqual(marks_fields(marks), (4, 500, 200, True, False, True))

    def test_all_left_out(self):
        marks = Marks()
        self.assertEqual(seen(list(marks_fields(marks))), seen(list(LEFT_OUT)))

    def test_each_alone(self):
        given = [("kind", 3), ("needs", 7), ("most", 9), ("member", True), ("once", True), ("lone", True)]
        for place, (name, value) in enumerate(given):
            told = list(LEFT_OUT)
            told[place] = value
            self.assertEqual(seen(list(marks_fields(Marks(**{name: value})))), seen(told), name)

    def test_the_first_ones_by_place(self):
        given = (3, 7, 9, True, True, True)
        for many in range(7):
            self.assertEqual(marks_fields(Marks(*given[:many])), given[:many] + LEFT_OUT[many:])

    def test_0_is_not_none(self):
        marks = Marks(kind=0, most=0)
        self.assertEqual(seen([marks.kind, marks.most]), seen([0, 0]))

    def test_bounds(self):
        self.assertEqual(marks_fields(Marks(19, MOST, MOST)), (19, MOST, MOST, False, False, False))

    def test_marks_are_no_voucher(self):
        self.assertNotIsInstance(Marks(), Voucher)

    def test_each_keeps_its_own(self):
        one, other = Marks(1, 2, 3), Marks(4, 5, 6, True, True, True)
        self.assertEqual(marks_fields(one), (1, 2, 3, False, False, False))
        self.assertEqual(marks_fields(other), (4, 5, 6, True, True, True))


class VoucherFields(unittest.TestCase):
    def test_off(self):
        for voucher in (Off(250), Off(amount=250), Off(250, None), Off(marks=None, amount=250)):
            self.assertEqual(voucher.amount, 250)
            self.assertEqual(marks_fields(voucher.marks), LEFT_OUT)

    def test_share(self):
        for voucher in (Share(150), Share(share=150), Share(150, False), Share(150, False, None)):
            self.assertEqual(voucher.share, 150)
            self.assertIs(voucher.by_line, False)
        for voucher in (Share(150, True), Share(150, by_line=True), Share(marks=None, by_line=True, share=150)):
            self.assertEqual(voucher.share, 150)
            self.assertIs(voucher.by_line, True)

    def test_cheapest(self):
        for voucher in (Cheapest(3), Cheapest(many=3), Cheapest(3, None), Cheapest(marks=None, many=3)):
            self.assertEqual(voucher.many, 3)

    def test_bundle(self):
        for voucher in (Bundle(3, 500), Bundle(price=500, many=3), Bundle(3, price=500), Bundle(3, 500, None)):
            self.assertEqual((voucher.many, voucher.price), (3, 500))

    def test_bounds(self):
        self.assertEqual([Off(0).amount, Off(MOST).amount], [0, MOST])
        self.assertEqual([Share(1).share, Share(1000).share], [1, 1000])
        self.assertEqual([Cheapest(2).many, Cheapest(20).many], [2, 20])
        self.assertEqual([(each.many, each.price) for each in (Bundle(2, 0), Bundle(20, MOST))], [(2, 0), (20, MOST)])

    def test_what_may_not_be_left_out(self):
        for sort, given in ((Off, {}), (Share, {}), (Cheapest, {}), (Bundle, {"many": 2}), (Bundle, {"price": 2})):
            with self.assertRaises(TypeError):
                sort(**given)


class Sorts(unittest.TestCase):
    def test_each_under_voucher_alone(self):
        for sort in SORTS:
            self.assertEqual(sort.__bases__, (Voucher,), sort)

    def test_none_under_another(self):
        for place, voucher in enumerate(without_marks()):
            self.assertIsInstance(voucher, Voucher)
            for number, sort in enumerate(SORTS):
                self.assertIs(isinstance(voucher, sort), place == number, (voucher, sort))

    def test_names(self):
        self.assertEqual([sort.__name__ for sort in SORTS], ["Off", "Share", "Cheapest", "Bundle", "Carriage"])


class MarksOfVouchers(unittest.TestCase):
    def test_left_out(self):
        for voucher in without_marks():
            self.assertIsInstance(voucher.marks, Marks)
            self.assertEqual(seen(list(marks_fields(voucher.marks))), seen(list(LEFT_OUT)))

    def test_none(self):
        for voucher in with_marks(None):
            self.assertIsInstance(voucher.marks, Marks)
            self.assertEqual(marks_fields(voucher.marks), LEFT_OUT)

    def test_handed_in(self):
        for voucher in with_marks(Marks(4, 500, 200, True, False, True)):
            self.assertIsInstance(voucher.marks, Marks)
            self.assertEqual(marks_fields(voucher.marks), (4, 500, 200, True, False, True))

    def test_handed_in_with_nothing_said(self):
        for voucher in with_marks(Marks()):
            self.assertEqual(marks_fields(voucher.marks), LEFT_OUT)

    def test_handed_marks_stay(self):
        marks = Marks(4, 500, 200, True, False, True)
        before = seen(marks)
        with_marks(marks)
        self.assertEqual(seen(marks), before)

    def test_each_has_one_of_its_own(self):
        for one, other in zip(without_marks() + with_marks(None), without_marks() + with_marks(None)):
            self.assertIsInstance(one.marks, Marks)
            self.assertIsInstance(other.marks, Marks)
            self.assertIsNot(one.marks, other.marks)

    def test_no_list_is_shared(self):
        self.assertTrue(share_no_list(*without_marks(), *without_marks()))


if __name__ == "__main__":
    unittest.main()

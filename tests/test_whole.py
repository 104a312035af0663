"""The whole program: texts with several baskets, hands, questions and accounts, held against the functions."""

import unittest

from helper import Numbers, made_text, refusal_of, seen, share_no_list
from voucherstack.accounts import Account
from voucherstack.answers import answers
from voucherstack.bills import priced
from voucherstack.looks import first_spill, first_unlike, first_use
from voucherstack.papers import holds
from voucherstack.rules import fault
from voucherstack.search import best
from voucherstack.till import Till
from voucherstack.vouchers import Bundle, Carriage, Cheapest, Marks, Off, Share
from voucherstack.wares import Basket, Line

TEXT = """
kind food
kind bread under food
kind tea
voucher five off 500 needs 1500 once
voucher tenth share 100 line of food most 300
voucher third cheapest 3 of bread lone
rule five behind third

basket 490
ware bread 320 5
ware tea 899 1
hold third 1
hold five 1
use third five
use five third
best

basket 290 member
ware bread 320 4 special 299
ware food 1250 1
ware tea 899 0
hold tenth 1
hold third 1
never five
unlike
spill
best
buy third tenth

voucher pair bundle 2 1000
rule pair only tenth
hold pair 2
use pair pair tenth
use pair pair
best
take 0 2
take 1 1
take 1 1
back shares
buy pair tenth
take 0 1
take 2 1
voucher post carriage member
hold post 1
use post tenth
"""


class OneText(unittest.TestCase):
    """The same till, baskets and hands by hand."""

    FIVE, TENTH = Off(500, Marks(needs=1500, once=True)), Share(100, True, Marks(0, most=300))
    THIRD, PAIR, POST = Cheapest(3, Marks(1, lone=True)), Bundle(2, 1000), Carriage(Marks(member=True))
    PARENTS, AHEAD = [None, 0, None], ("ahead", 2, 0)
    ONE = Basket([Line(1, 320, 5), Line(2, 899, 1)], 490)
    OTHER = Basket([Line(1, 320, 4, 299), Line(0, 1250, 1), Line(2, 899, 0)], 290, True)
    NAMES = ["five", "tenth", "third", "pair", "post"]

    def names(self, order):
        return [self.NAMES[number] for number in order]

    def test_each_answer(self):
        few = Till(self.PARENTS, [self.FIVE, self.TENTH, self.THIRD], [self.AHEAD])
        more = Till(self.PARENTS, few.vouchers + [self.PAIR], [self.AHEAD, ("only", 3, 1)])
        last = Till(self.PARENTS, more.vouchers + [self.POST], more.rules, "shares")
        found = iter([told for line, word, told in answers(TEXT)])

        def is_next(told):
            self.assertEqual(next(found), told)

        def price(till, basket, hand, order):
            return ("price", priced(till, basket, hand, order).total)

        is_next(price(few, self.ONE, [1, 0, 1], [2, 0]))
        is_next(("fault",) + fault(few, self.ONE, [1, 0, 1], [0, 2]))
        order, total, paper = best(few, self.ONE, [1, 0, 1])
        self.assertTrue(holds(few, self.ONE, [1, 0, 1], order, total, paper))
        is_next((self.names(order), total))

        told = first_use(few, 0, [self.ONE, self.OTHER])
        is_next((told[0], self.names(told[1])))
        told = first_unlike(few, [self.ONE, self.OTHER])
        is_next((told[0], self.names(told[1]), self.names(told[2])))
        is_next(first_spill(few, [self.ONE, self.OTHER]))
        order, total, paper = best(few, self.OTHER, [0, 1, 1])
        is_next((self.names(order), total))
        account = Account(few, self.OTHER, [0, 1, 1], [2, 1])
        is_next(("price", account.paid))

        is_next(price(more, self.OTHER, [0, 1, 1, 2], [3, 3, 1]))
        is_next(("fault",) + fault(more, self.OTHER, [0, 1, 1, 2], [3, 3]))
        order, total, paper = best(more, self.OTHER, [0, 1, 1, 2])
        is_next((self.names(order), total))
        for line, many in ((0, 2), (1, 1)):
            back = account.take_back(line, many)
            is_next((back, account.paid, account.owed, self.names(account.order)))
        is_next("NoPieces")

        account = Account(Till(more.parents, more.vouchers, more.rules, "shares"), self.OTHER, [0, 1, 1, 2], [3, 1])
        is_next(("price", account.paid))
        back = account.take_back(0, 1)
        is_next((back, account.paid, account.owed, self.names(account.order)))
        is_next("NoPieces")
        is_next(price(last, self.OTHER, [0, 1, 1, 2, 1], [4, 1]))
        self.assertEqual(list(found), [])

    def test_lines_and_words(self):
        rows = TEXT.split("\n")
        for line, word, told in answers(TEXT):
            self.assertEqual(rows[line - 1].split(" ")[0], word)

    def test_a_few_by_hand(self):
        told = [told for line, word, told in answers(TEXT)]
        # 1600 of bread less 320, 899 of tea, 490: 2669, and 500 off.
        self.assertEqual(told[:3], [("price", 2169), ("fault", 1, "ahead"), (["third", "five"], 2169)])
        # 1196 of bread less 299 is 897, a tenth of it 89; a tenth of 1250 is 125: 808, 1125 and 290.
        self.assertEqual(told[7], ("price", 2223))


class MadeTexts(unittest.TestCase):
    def test_each_answer(self):
        numbers, found = Numbers(28), {}
        for place in range(220):
            made = made_text(numbers, 45)
            self.assertEqual(answers(made.text()), made.expected, made.text())
            for line, word, told in made.expected:
                kind = told if isinstance(told, str) else told and isinstance(told[0], str) and told[0]
                found[(word, kind)] = found.get((word, kind), 0) + 1
        self.assertEqual(set(found), {
            ("use", "price"), ("use", "fault"), ("best", False), ("buy", "price"), ("buy", "fault"),
            ("take", False), ("take", "NoPieces"), ("take", "NoAccount"), ("never", None), ("never", False),
            ("unlike", None), ("unlike", False), ("spill", None), ("spill", False),
        })
        self.assertGreater(min(found.values()), 20, found)

    def test_no_two_lists_are_one(self):
        numbers = Numbers(1)
        for place in range(40):
            text = made_text(numbers, 30).text()
            one, other = answers(text), answers(text)
            self.assertTrue(share_no_list(one, other))
            self.assertEqual(seen(one), seen(other))

    def test_a_beginning_of_a_text_is_told_the_same(self):
        numbers = Numbers(2)
        for place in range(20):
            made = made_text(numbers, 25)
            many = numbers.below(len(made.rows))
            wanted = [each for each in made.expected if each[0] <= many]
            self.assertEqual(answers("\n".join(made.rows[:many])), wanted)

    def test_refused_at_the_line_behind(self):
        numbers = Numbers(3)
        for place in range(20):
            made = made_text(numbers, 25)
            self.assertEqual(refusal_of(made.text() + "\nwhat"), ("BadText", len(made.rows) + 1))


if __name__ == "__main__":
    unittest.main()

"""[25] and [26]: what the lines of a text tell of kinds, vouchers, rules, back, baskets, wares and hands."""

import itertools
import unittest

from helper import refusal_of, told_of
from voucherstack.bills import priced
from voucherstack.rules import fault
from voucherstack.till import Till
from voucherstack.vouchers import Bundle, Carriage, Cheapest, Marks, Off, Share
from voucherstack.wares import Basket, Line

KINDS = "kind food\nkind bread under food\nkind roll under bread\nkind tea\n"
PARENTS = [None, 0, 1, None]
# Prices 100, 100 of bread, 41 of tea, 30, 30, 30 of food, and 7 of roll.
WARES = "ware bread 100 2 special 90\nware tea 41 1\nware food 30 3\nware roll 7 1\n"
LINES = [Line(1, 100, 2, 90), Line(3, 41, 1), Line(0, 30, 3), Line(2, 7, 1)]
SORTS = (
    ("off 130", lambda marks: Off(130, marks)),
    ("share 333 line", lambda marks: Share(333, True, marks)),
    ("share 333 basket", lambda marks: Share(333, False, marks)),
    ("cheapest 2", lambda marks: Cheapest(2, marks)),
    ("bundle 3 60", lambda marks: Bundle(3, 60, marks)),
    ("carriage", lambda marks: Carriage(marks)),
)
MARKS = (("of bread", "kind", 1), ("needs 150", "needs", 150), ("most 17", "most", 17), ("member", "member", True),
         ("once", "once", True), ("lone", "lone", True))
USES = (("x", [0]), ("x x", [0, 0]), ("y x", [1, 0]), ("x y", [0, 1]), ("z x", [2, 0]))


def expected(voucher, member):
    """What is told to each of USES, by the functions."""
    till = Till(PARENTS, [voucher, Off(20, Marks(kind=2, lone=True)), Off(60)], [])
    handed = (till, Basket(LINES, 490, member), [2, 2, 2])
    told = []
    for words, order in USES:
        due = fault(*handed, order)
        told.append(("price", priced(*handed, order).total) if due is None else ("fault",) + due)
    return told


def text_of(words):
    """The same as a text, for a basket of a member and one that is not."""
    text = KINDS + "voucher x " + words + "\nvoucher y off 20 of roll lone\nvoucher z off 60\n"
    for basket in ("basket 490\n", "basket 490 member\n"):
        text += basket + WARES + "hold x 2\nhold y 2\nhold z 2\n" + "".join(f"use {words}\n" for words, order in USES)
    return text


class KindsOfWare(unittest.TestCase):
    def about(self, kind, ware):
        """Whether a voucher of the one kind is about a ware of the other."""
        text = KINDS + f"voucher x off 5 of {kind}\nbasket 0\nware {ware} 100 1\nhold x 1\nuse x"
        return {("price", 95): True, ("fault", 0, "nothing"): False}[told_of(text)[0]]

    def test_under(self):
        names = ["food", "bread", "roll", "tea"]
        under = [("food", "bread"), ("food", "roll"), ("bread", "roll")] + [(name, name) for name in names]
        for one, other in itertools.product(names, names):
            self.assertEqual(self.about(one, other), (one, other) in under, (one, other))

    def test_of_the_first_kind(self):
        # The first kind's number is 0, which is not the same as none.
        text = "kind a\nkind b\nvoucher x off 5 of a\nbasket 0\nware b 100 1\nhold x 1\nuse x"
        self.assertEqual(told_of(text), [("fault", 0, "nothing")])
        text = "kind a\nkind c under a\nvoucher x off 5 of a\nbasket 0\nware c 100 1\nhold x 1\nuse x"
        self.assertEqual(told_of(text), [("price", 95)])

    def test_told_behind_its_use(self):
        for line in ("kind bread under food", "voucher x off 1 of food", "ware food 1 1"):
            self.assertEqual(refusal_of("basket 0\n" + line + "\nkind food"), ("NoName", 2), line)
            self.assertIsNone(refusal_of("kind food\nbasket 0\n" + line), line)

    def test_under_itself(self):
        self.assertEqual(refusal_of("kind food under food"), ("NoName", 1))

    def test_told_behind_a_basket(self):
        text = "basket 0\nkind food\nware food 3 1\nkind bread under food\nware bread 4 1\nuse"
        self.assertEqual(told_of(text), [("price", 7)])


class Vouchers(unittest.TestCase):
    def check(self, words, voucher):
        self.assertEqual(told_of(text_of(words)), expected(voucher, False) + expected(voucher, True), words)

    def test_each_form_without_marks(self):
        for words, make in SORTS:
            self.check(words, make(Marks()))

    def test_each_form_with_each_mark_alone(self):
        for words, make in SORTS:
            for mark, field, value in MARKS:
                self.check(words + " " + mark, make(Marks(**{field: value})))

    def test_some_marks(self):
        for words, make in SORTS:
            for many in (2, 3, 4, 5):
                for marks in itertools.combinations(MARKS, many):
                    told = make(Marks(**{field: value for mark, field, value in marks}))
                    self.check(words + " " + " ".join(mark for mark, field, value in marks), told)

    def test_all_marks_in_any_order(self):
        marks = Marks(1, 150, 17, True, True, True)
        wanted = expected(Off(130, marks), False) + expected(Off(130, marks), True)
        self.assertGreater(len({repr(each) for each in wanted}), 4)
        for order in itertools.permutations([mark for mark, field, value in MARKS]):
            self.assertEqual(told_of(text_of("off 130 " + " ".join(order))), wanted, order)
        for words, make in SORTS:
            self.check(words + " lone once member most 17 needs 150 of bread", make(marks))

    def test_marks_at_their_bounds(self):
        for number in (0, 1, 10 ** 12):
            self.check(f"off 130 needs {number}", Off(130, Marks(needs=number)))
            self.check(f"off 130 most {number}", Off(130, Marks(most=number)))
            self.check(f"carriage most {number}", Carriage(Marks(most=number)))

    def test_numbers_at_their_bounds(self):
        for number in (0, 1, 10 ** 12):
            self.check(f"off {number}", Off(number))
            self.check(f"bundle 2 {number}", Bundle(2, number))
        for number in (1, 2, 999, 1000):
            self.check(f"share {number} line", Share(number, True))
            self.check(f"share {number} basket", Share(number, False))
        for number in (2, 3, 7, 8, 20):
            self.check(f"cheapest {number}", Cheapest(number))
            self.check(f"bundle {number} 50", Bundle(number, 50))

    def test_numbers_beyond_their_bounds(self):
        for line in ("off 1000000000001", "share 0 line", "share 0 basket", "share 1001 line", "share 1001 basket",
                     "cheapest 0", "cheapest 1", "cheapest 21", "bundle 0 5", "bundle 1 5", "bundle 21 5",
                     "bundle 2 1000000000001", "off 1 needs 1000000000001", "off 1 most 1000000000001"):
            self.assertEqual(refusal_of("\nvoucher x " + line), ("BadText", 2), line)

    def test_each_mark_twice(self):
        for words, make in SORTS:
            for mark, field, value in MARKS:
                text = f"{KINDS}voucher x {words} {mark}"
                self.assertIsNone(refusal_of(text))
                self.assertEqual(refusal_of(f"{text} {mark}"), ("BadText", 5), text)
        for mark, field, value in MARKS:
            between = " ".join(other for other, name, number in MARKS if other != mark)
            self.assertEqual(refusal_of(f"{KINDS}voucher x off 1 {mark} {between} {mark}"), ("BadText", 5), mark)

    def test_a_mark_twice_with_another_value(self):
        for marks in ("of bread of tea", "needs 1 needs 2", "most 1 most 2", "of bread once of tea"):
            self.assertEqual(refusal_of(f"{KINDS}voucher x off 1 {marks}"), ("BadText", 5), marks)

    def test_what_is_no_form(self):
        for line in ("x", "x 5", "x of food", "x share 5", "x share 5 once", "x share line", "x share 5 line basket",
                     "x share 5 basket line", "x off", "x off once", "x off 5 5", "x cheapest", "x cheapest 2 2",
                     "x bundle 2", "x bundle", "x bundle 2 5 5", "x carriage 5", "x carriage off 5", "x off 5 carriage",
                     "x member off 5", "off 5", "x off 5 of", "x off 5 needs", "x off 5 most", "x off 5 needs once",
                     "x off 5 member 1", "x off 5 of food bread", "x off 5 line", "x off 5 special 5", "x", ""):
            self.assertEqual(refusal_of(f"{KINDS}voucher {line}"), ("BadText", 5), line)

    def test_told_behind_the_basket(self):
        text = "kind food\nbasket 0\nware food 100 1\nvoucher x off 5\nuse\nuse x\nhold x 1\nuse x"
        self.assertEqual(told_of(text), [("price", 100), ("fault", 0, "held"), ("price", 95)])


class Rules(unittest.TestCase):
    def told(self, *rules):
        lines = "".join(f"rule {rule}\n" for rule in rules)
        return told_of("kind food\nvoucher a off 1\nvoucher b off 2\nvoucher c off 4\n" + lines + """
            basket 0
            ware food 100 1
            hold a 2
            hold b 2
            hold c 2
            use a
            use b
            use a b
            use b a
            use a a
        """)

    def check(self, rules, faults):
        """Each of faults is None or what is told in the place of the price."""
        prices = [("price", 99), ("price", 98), ("price", 97), ("price", 97), ("price", 98)]
        told = [("fault",) + due if due else price for due, price in zip(faults, prices)]
        self.assertEqual(self.told(*rules), told, rules)

    def test_none(self):
        self.check([], [None, None, None, None, None])

    def test_only(self):
        self.check(["a only b"], [(1, "only"), None, None, None, (2, "only")])
        self.check(["b only a"], [None, (1, "only"), None, None, None])

    def test_never(self):
        self.check(["a never b"], [None, None, (1, "never"), (1, "never"), None])
        self.check(["b never a"], [None, None, (1, "never"), (1, "never"), None])

    def test_ahead(self):
        self.check(["a ahead b"], [None, None, None, (1, "ahead"), None])
        self.check(["b ahead a"], [None, None, (1, "ahead"), None, None])

    def test_behind(self):
        self.check(["a behind b"], [None, None, (1, "ahead"), None, None])
        self.check(["b behind a"], [None, None, None, (1, "ahead"), None])

    def test_a_voucher_and_itself(self):
        self.check(["a only a"], [None] * 5)
        self.check(["a never a"], [None, None, None, None, (1, "never")])
        self.check(["a ahead a"], [None, None, None, None, (1, "ahead")])
        self.check(["a behind a"], [None, None, None, None, (1, "ahead")])

    def test_the_same_rule_twice(self):
        self.check(["a only b", "a only b"], [(1, "only"), None, None, None, (2, "only")])

    def test_several(self):
        self.check(["a ahead b", "a only c"], [(1, "only"), None, (2, "only"), (1, "ahead"), (2, "only")])

    def test_from_there_on(self):
        text = "kind k\nvoucher a off 1\nvoucher b off 2\nbasket 0\nware k 9 1\nhold a 1\nuse a\nrule a only b\nuse a"
        self.assertEqual(told_of(text), [("price", 8), ("fault", 1, "only")])

    def test_what_is_no_form(self):
        begun = "kind food\nvoucher a off 1\nvoucher b off 2\n"
        for line in ("", "a", "a only", "a b", "only a b", "a only b b", "a only b 1", "a off b", "a before b",
                     "a 1 b", "1 only b", "a only 1", "a never", "a ahead", "a behind", "a behind b member"):
            self.assertEqual(refusal_of(f"{begun}rule {line}"), ("BadText", 4), line)

    def test_no_vouchers(self):
        begun = "kind food\nvoucher a off 1\n"
        for line in ("food only a", "a only food", "b only a", "a only b", "a behind b", "b never a", "a ahead food"):
            self.assertEqual(refusal_of(f"{begun}rule {line}"), ("NoName", 3), line)

    def test_told_behind_its_use(self):
        self.assertEqual(refusal_of("voucher a off 1\nrule a only b\nvoucher b off 1"), ("NoName", 2))


class Back(unittest.TestCase):
    # The voucher needs 200: where what stays is reckoned anew, it falls.
    BOUGHT = "kind food\nvoucher x off 30 needs 200\n{}basket 0\nware food 100 2\nhold x 1\n{}buy x\ntake 0 1\n"
    AGAIN = [("price", 170), (70, 100, 0, [])]
    SHARES = [("price", 170), (85, 85, 0, ["x"])]

    def test_again_at_first(self):
        self.assertEqual(told_of(self.BOUGHT.format("", "")), self.AGAIN)

    def test_each(self):
        self.assertEqual(told_of(self.BOUGHT.format("back again\n", "")), self.AGAIN)
        self.assertEqual(told_of(self.BOUGHT.format("back shares\n", "")), self.SHARES)

    def test_the_last_one_told_holds(self):
        self.assertEqual(told_of(self.BOUGHT.format("back shares\n", "back again\n")), self.AGAIN)
        self.assertEqual(told_of(self.BOUGHT.format("back again\n", "back shares\n")), self.SHARES)
        self.assertEqual(told_of(self.BOUGHT.format("back shares\nback shares\n", "")), self.SHARES)

    def test_told_behind_the_basket(self):
        self.assertEqual(told_of(self.BOUGHT.format("", "back shares\n")), self.SHARES)

    def test_from_there_on(self):
        text = self.BOUGHT.format("", "") + "back shares\nbuy x\ntake 0 1\n"
        self.assertEqual(told_of(text), self.AGAIN + self.SHARES)

    def test_what_is_no_form(self):
        for line in ("back", "back a", "back never", "back share", "back again again", "back again shares",
                     "back shares 1", "back 0"):
            self.assertEqual(refusal_of("voucher a off 1\n" + line), ("BadText", 2), line)


class Baskets(unittest.TestCase):
    def test_carriage(self):
        for carriage in (0, 1, 490, 10 ** 12):
            text = f"basket {carriage}\nuse\nbasket {carriage} member\nuse"
            self.assertEqual(told_of(text), [("price", carriage)] * 2)

    def test_member(self):
        text = "kind k\nvoucher x off 5 member\nbasket 7{}\nware k 100 1 special 80\nhold x 1\nuse\nuse x"
        self.assertEqual(told_of(text.format("")), [("price", 107), ("fault", 0, "member")])
        self.assertEqual(told_of(text.format(" member")), [("price", 87), ("price", 82)])

    def test_lines_go_into_the_basket_begun_last(self):
        text = "kind k\nbasket 1\nware k 10 1\nware k 20 2\nuse\nbasket 2 member\nuse\nware k 5 3\nuse\nbasket 3\nuse"
        self.assertEqual(told_of(text), [("price", 51), ("price", 2), ("price", 17), ("price", 3)])

    def test_what_is_no_form(self):
        for line in ("basket", "basket member", "basket 5 5", "basket 5 once", "basket 5 member member", "basket a",
                     "basket 5 member 5", "basket food", "basket 1000000000001", "basket 5 special 5"):
            self.assertEqual(refusal_of("kind food\n" + line), ("BadText", 2), line)


class Wares(unittest.TestCase):
    def total(self, *wares):
        return told_of("kind food\nkind tea\nbasket 0 member\n" + "".join(f"ware {ware}\n" for ware in wares) + "use")

    def test_price_and_pieces(self):
        self.assertEqual(self.total("food 7 3"), [("price", 21)])
        self.assertEqual(self.total("food 3 7", "tea 0 5", "tea 10 1"), [("price", 31)])
        self.assertEqual(self.total(), [("price", 0)])

    def test_special(self):
        self.assertEqual(self.total("food 7 3 special 5"), [("price", 15)])
        self.assertEqual(self.total("food 7 3 special 0", "food 7 3 special 9", "food 7 3"), [("price", 48)])
        self.assertEqual(self.total("food 0 1 special 1000000000000"), [("price", 10 ** 12)])

    def test_pieces_at_their_bounds(self):
        for many in (0, 1, 19, 20):
            self.assertEqual(self.total(f"food 3 {many}"), [("price", 3 * many)])
            self.assertEqual(self.total(f"food 3 {many} special 2"), [("price", 2 * many)])

    def test_beyond_their_bounds(self):
        for ware in ("food 3 21", "food 3 21 special 2", "food 1000000000001 1", "food 1 1 special 1000000000001",
                     "food 3 1000000000000", "food 3 9999999999999"):
            self.assertEqual(refusal_of(f"kind food\nbasket 0\nware {ware}"), ("BadText", 3), ware)

    def test_the_same_line_twice(self):
        self.assertEqual(self.total("food 7 3", "food 7 3"), [("price", 42)])

    def test_each_line_is_one_of_its_own(self):
        # A share for each line: half of 3 is 1, twice; half of 6 for the basket is 3.
        text = "kind food\nvoucher x share 500 {}\nbasket 0\nware food 3 1\nware food 3 1\nhold x 1\nuse x"
        self.assertEqual(told_of(text.format("line")), [("price", 4)])
        self.assertEqual(told_of(text.format("basket")), [("price", 3)])

    def test_what_is_no_form(self):
        for ware in ("", "food", "food 1", "1 1", "food 1 1 1", "food 1 1 special", "food 1 1 special food",
                     "food special 1", "food 1 special 1", "food 1 1 special 1 1", "food 1 1 member", "food 1 a",
                     "food a 1", "food 1 1 special 1 special 1", "food 1 1 1 special"):
            self.assertEqual(refusal_of(f"kind food\nbasket 0\nware {ware}"), ("BadText", 3), ware)

    def test_no_kind(self):
        for ware in ("tea 1 1", "x 1 1"):
            self.assertEqual(refusal_of(f"kind food\nvoucher x off 1\nbasket 0\nware {ware}"), ("NoName", 4), ware)


class Hands(unittest.TestCase):
    BEGUN = "kind food\nvoucher x off 1\nvoucher y off 10\nbasket 0\nware food 100 1\n"

    def held(self, lines, name="x"):
        """How many are held by then: so many can be used one behind the other, and no more."""
        text = self.BEGUN + lines
        told = told_of(text + "".join("\nuse" + f" {name}" * many for many in range(9)))[-9:]
        let_by = [each for each in told if each[0] == "price"]
        self.assertEqual(told[len(let_by):], [("fault", len(let_by) - 1, "held")] * (9 - len(let_by)))
        return len(let_by) - 1

    def test_none_at_first(self):
        self.assertEqual((self.held(""), self.held("", "y")), (0, 0))

    def test_each_number(self):
        for many in range(6):
            self.assertEqual(self.held(f"hold x {many}"), many)
            self.assertEqual(self.held(f"hold x {many}", "y"), 0)
            self.assertEqual(self.held(f"hold y {many}", "y"), many)

    def test_beyond_the_bound(self):
        for many in ("6", "7", "10", "1000000000000", "05"):
            self.assertEqual(refusal_of(f"{self.BEGUN}hold x {many}"), ("BadText", 6), many)

    def test_in_the_place_of_what_was_held(self):
        self.assertEqual(self.held("hold x 3\nhold x 2"), 2)
        self.assertEqual(self.held("hold x 3\nhold x 0"), 0)
        self.assertEqual(self.held("hold x 3\nhold y 1\nhold x 4"), 4)
        self.assertEqual(self.held("hold x 2\nhold x 2"), 2)

    def test_from_there_on(self):
        text = self.BEGUN + "use x\nhold x 1\nuse x\nuse x x\nhold x 2\nuse x x\nhold x 0\nuse x"
        self.assertEqual(told_of(text), [("fault", 0, "held"), ("price", 99), ("fault", 1, "held"), ("price", 98),
                                         ("fault", 0, "held")])

    def test_a_voucher_told_behind_the_basket(self):
        self.assertEqual(self.held("hold x 2\nvoucher z off 1\nhold z 3", "z"), 3)
        self.assertEqual(self.held("hold x 2\nvoucher z off 1\nhold z 3", "x"), 2)
        self.assertEqual(self.held("hold y 2\nvoucher z off 1", "z"), 0)
        self.assertEqual(refusal_of(self.BEGUN + "hold z 1\nvoucher z off 1"), ("NoName", 6))

    def test_each_basket_has_its_own(self):
        self.assertEqual(self.held("hold x 3\nbasket 0\nware food 100 1"), 0)
        self.assertEqual(self.held("hold x 3\nbasket 0\nware food 100 1\nhold x 1"), 1)
        self.assertEqual(self.held("hold x 3\nbasket 0\nware food 100 1\nhold y 1"), 0)

    def test_behind_a_buy_they_are_still_held(self):
        self.assertEqual(self.held("hold x 2\nbuy x x\ntake 0 1"), 2)

    def test_what_is_no_form(self):
        for line in ("", "x", "1", "1 x", "x 1 1", "x x", "x 1 x", "x a", "x 1 y 1"):
            self.assertEqual(refusal_of(f"{self.BEGUN}hold {line}"), ("BadText", 6), line)

    def test_no_voucher(self):
        for line in ("z 1", "food 1", "z", "z 9"):
            self.assertEqual(refusal_of(f"{self.BEGUN}hold {line}"), ("NoName", 6), line)


if __name__ == "__main__":
    unittest.main()

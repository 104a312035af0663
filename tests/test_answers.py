"""[27] and [28]: the questions of a text, and what answers tells to each."""

import unittest

from helper import share_no_list, seen, told_of
from voucherstack.answers import answers

# Lines 1 to 12: bread 300, tea 120, carriage 490.
BEGUN = """kind food
kind bread under food
kind tea
voucher ten off 100 of food
voucher half share 500 basket
voucher free carriage once
basket 490
ware bread 100 3
ware tea 60 2
hold ten 1
hold half 1
hold free 1
"""
# tenth and five can be unlike; five and cup can spill; cup is used with tenth alone.
LOOKED_OVER = """kind food
kind tea
voucher tenth share 100 basket
voucher five off 50
voucher cup off 30 of tea
rule cup only tenth
"""


def told(questions, begun=BEGUN):
    return told_of(begun + questions)


class Form(unittest.TestCase):
    def test_a_tuple_for_each_question_in_order(self):
        text = BEGUN + "use ten\n\n  best\nhold ten 0\nbuy\n\ntake 1 1\n"
        self.assertEqual(answers(text), [
            (13, "use", ("price", 810)),
            (15, "best", (["half", "ten", "free"], 110)),
            (17, "buy", ("price", 910)),
            (19, "take", (60, 850, 0, [])),
        ])

    def test_looks(self):
        self.assertEqual(answers("voucher a off 1\nnever a\nunlike\n\nspill"), [
            (2, "never", None), (3, "unlike", None), (5, "spill", None),
        ])

    def test_kinds(self):
        text = BEGUN + "use\nuse ten ten\nbest\nbuy half\nbuy ten ten\nbuy\ntake 0 1\ntake 0 9\n"
        text += "never ten\nunlike\nspill"
        found = answers(text)
        self.assertIs(type(found), list)
        for each in found:
            self.assertEqual((type(each), len(each), type(each[0]), type(each[1])), (tuple, 3, int, str))
        kinds = [[type(part).__name__ for part in each[2]] if type(each[2]) is tuple else each[2] for each in found]
        self.assertEqual(kinds, [
            ["str", "int"], ["str", "int", "str"], ["list", "int"], ["str", "int"], ["str", "int", "str"],
            ["str", "int"], ["int", "int", "int", "list"], "NoPieces", ["int", "list"], ["int", "list", "list"], None,
        ])

    def test_no_question(self):
        self.assertEqual(answers(BEGUN), [])

    def test_by_name(self):
        self.assertEqual(answers(text="unlike"), [(1, "unlike", None)])


class Use(unittest.TestCase):
    def test_none(self):
        self.assertEqual(told("use"), [("price", 910)])
        self.assertEqual(told_of("basket 490\nuse"), [("price", 490)])

    def test_some(self):
        self.assertEqual(told("use ten\nuse half\nuse free\nuse ten half\nuse half ten\nuse free half ten"), [
            ("price", 810), ("price", 700), ("price", 420), ("price", 650), ("price", 600), ("price", 110),
        ])

    def test_8(self):
        begun = BEGUN + "voucher one off 1\nhold one 5\nhold ten 3\n"
        self.assertEqual(told("use" + " one" * 5 + " ten" * 3 + "\nbuy" + " ten one" * 3 + " one one", begun),
                         [("price", 605)] * 2)

    def test_faults(self):
        more = """
            voucher big off 10 needs 421
            voucher ours off 10 member
            voucher cup off 10 of none
            voucher some off 10 needs 420
            rule ten never half
            rule free ahead ten
            rule some only free
            hold free 2
            hold big 1
            hold ours 1
            hold cup 1
            hold some 2
        """
        begun = "kind none\n" + BEGUN + more
        for word in ("use", "buy"):
            for order, fault in (
                ("ten ten", (1, "held")),
                ("half ten", (1, "never")),
                ("ten half", (1, "never")),
                ("free free", (1, "once")),
                ("ten free", (1, "ahead")),
                ("ours", (0, "member")),
                ("cup", (0, "nothing")),
                ("big", (0, "needs")),
                ("free half some", (2, "needs")),
                ("some", (1, "only")),
                ("some half", (2, "only")),
                ("half ours cup", (1, "member")),
                ("some some", (1, "needs")),
            ):
                self.assertEqual(told(f"{word} {order}", begun), [("fault",) + fault], order)
            self.assertEqual(told(f"{word} some free", begun), [("price", 410)])

    def test_what_was_told_by_then(self):
        questions = "use ten\nware food 50 2\nuse ten\n"
        questions += "voucher last off 1\nhold last 1\nuse ten last\nhold ten 0\nuse ten"
        self.assertEqual(told(questions), [("price", 810), ("price", 910), ("price", 909), ("fault", 0, "held")])

    def test_about_the_basket_begun_last(self):
        self.assertEqual(told("basket 3\nuse\nuse ten\nware food 5 1\nhold ten 1\nuse ten"),
                         [("price", 3), ("fault", 0, "held"), ("price", 3)])

    def test_changes_nothing(self):
        self.assertEqual(told("use ten\nuse ten\nbest\nbest\nuse ten"), [
            ("price", 810), ("price", 810), (["half", "ten", "free"], 110), (["half", "ten", "free"], 110),
            ("price", 810),
        ])


class Best(unittest.TestCase):
    def test_names_and_total(self):
        self.assertEqual(told("best"), [(["half", "ten", "free"], 110)])

    def test_nothing_held(self):
        self.assertEqual(told("hold ten 0\nhold half 0\nhold free 0\nbest"), [([], 910)])
        self.assertEqual(told_of("basket 7\nbest"), [([], 7)])

    def test_the_names_not_the_numbers(self):
        begun = "voucher zero off 1000000000000\n" + BEGUN
        self.assertEqual(told("hold half 0\nbest", begun), [(["ten", "free"], 320)])

    def test_5_held(self):
        # Nothing is left of the bread, and a fourth of the tea.
        self.assertEqual(told("hold ten 3\nhold free 0\nhold half 2\nbest"),
                         [(["ten", "ten", "ten", "half", "half"], 520)])

    def test_what_was_told_by_then(self):
        self.assertEqual(told("rule ten ahead half\nbest\nbasket 5\nbest"), [(["ten", "half", "free"], 160), ([], 5)])

    def test_an_account_changes_nothing_of_it(self):
        self.assertEqual(told("buy ten\ntake 0 3\nbest")[-1], (["half", "ten", "free"], 110))


class Account(unittest.TestCase):
    BOUGHT = "buy half ten free\n"

    def test_again(self):
        # Of 2 pieces of bread nothing is left behind half and ten. Without food ten falls; without any piece the
        # others fall, too, so that the carriage is due.
        self.assertEqual(told(self.BOUGHT + "take 0 1\ntake 0 2\ntake 1 2"), [
            ("price", 110),
            (50, 60, 0, ["half", "ten", "free"]),
            (0, 60, 0, ["half", "free"]),
            (0, 60, 430, []),
        ])

    def test_owed(self):
        # Half falls: 100 of bread and 120 of tea are due; then ten, and the tea alone is due.
        begun = BEGUN.replace("voucher half share 500 basket", "voucher half share 500 basket needs 400")
        self.assertEqual(told(self.BOUGHT + "take 0 1\ntake 0 2", begun), [
            ("price", 110), (0, 110, 110, ["ten", "free"]), (0, 110, 10, ["free"]),
        ])

    def test_shares(self):
        self.assertEqual(told("back shares\n" + self.BOUGHT + "take 0 1\ntake 0 2\ntake 1 2"), [
            ("price", 110),
            (16, 94, 0, ["half", "ten", "free"]),
            (34, 60, 0, ["half", "ten", "free"]),
            (60, 0, 0, ["half", "ten", "free"]),
        ])

    def test_ahead_of_the_first_buy(self):
        self.assertEqual(told("take 0 1\ntake 7 0\nbuy\ntake 0 1"),
                         ["NoAccount", "NoAccount", ("price", 910), (100, 810, 0, [])])

    def test_behind_a_refused_buy(self):
        self.assertEqual(told("buy ten ten\ntake 0 1"), [("fault", 1, "held"), "NoAccount"])
        self.assertEqual(told("buy\ntake 0 1\nbuy ten ten\ntake 0 1\ntake 0 1\nbuy\ntake 0 1"), [
            ("price", 910), (100, 810, 0, []), ("fault", 1, "held"), "NoAccount", "NoAccount",
            ("price", 910), (100, 810, 0, []),
        ])

    def test_no_such_pieces(self):
        for back in ("again", "shares"):
            refused = ["0 0", "0 4", "1 3", "2 1", "2 0", "7 1", "1000000000000 1", "0 1000000000000",
                       "1000000000000 1000000000000", "0 21", "20 20"]
            questions = f"back {back}\nbuy\n" + "".join(f"take {words}\n" for words in refused) + "take 0 3\ntake 0 1\n"
            self.assertEqual(told(questions), [("price", 910)] + ["NoPieces"] * 11 + [(300, 610, 0, []), "NoPieces"])

    def test_any_coin_numbers_where_no_account_is_open(self):
        self.assertEqual(told("take 1000000000000 1000000000000\ntake 0 0"), ["NoAccount"] * 2)

    def test_in_the_place_of_an_earlier_one(self):
        self.assertEqual(told("buy ten\ntake 0 1\nbuy free\ntake 0 1\ntake 1 2"), [
            ("price", 810), (100, 710, 0, ["ten"]), ("price", 420), (100, 320, 0, ["free"]), (120, 200, 0, ["free"]),
        ])

    def test_for_another_basket(self):
        self.assertEqual(told("buy\nbasket 5\nware tea 7 2\nbuy\ntake 0 1\ntake 1 1\ntake 0 1"),
                         [("price", 910), ("price", 19), (7, 12, 0, []), "NoPieces", (7, 5, 0, [])])

    def test_a_use_or_a_best_opens_none(self):
        self.assertEqual(told("use ten\nbest\ntake 0 1")[-1], "NoAccount")
        self.assertEqual(told("buy\nuse ten ten\nbest\nunlike\ntake 0 1")[-1], (100, 810, 0, []))

    def test_what_is_told_behind_a_buy(self):
        takes = ["take 0 1\n", "take 1 1\n", "take 0 2\n"]
        for back, other in (("again", "shares"), ("shares", "again")):
            bought = f"back {back}\nrule ten only half\n" + self.BOUGHT
            wanted = told(bought + "".join(takes))
            for lines in (
                "voucher more off 1\nhold more 1\n",
                "rule half never ten\nrule free only ten\nrule half only free\nrule ten ahead half\n",
                f"back {other}\n",
                "hold half 0\nhold ten 0\nhold free 0\n",
                "hold ten 5\n",
                "ware bread 1 5\nware tea 1000 1\n",
                "kind cake under food\nware cake 5 5\n",
                "basket 0\n",
                "basket 7 member\nware tea 5 5 special 1\nhold ten 1\n",
                "use ten\nbest\nnever ten\nunlike\nspill\n",
            ):
                for place in range(3):
                    text = BEGUN + bought + "".join(takes[:place] + [lines] + takes[place:])
                    found = [each[2] for each in answers(text) if each[1] in ("buy", "take")]
                    self.assertEqual(found, wanted, (back, lines, place))

    def test_the_names_of_those_that_hold(self):
        begun = "voucher zero off 1000000000000\n" + BEGUN
        self.assertEqual(told("buy free ten\ntake 0 1", begun), [("price", 320), (100, 220, 0, ["free", "ten"])])

    def test_the_same_voucher_twice(self):
        self.assertEqual(told("hold ten 3\nbuy ten half ten\ntake 0 2\ntake 0 1"), [
            ("price", 550), (0, 550, 0, ["ten", "half", "ten"]), (0, 550, 0, ["half"]),
        ])


class Looks(unittest.TestCase):
    def test_ahead_of_all_baskets(self):
        self.assertEqual(told("never five\nunlike\nspill", LOOKED_OVER), [None, None, None])
        self.assertEqual(told_of("unlike\nspill"), [None, None])

    def test_over_all_baskets_so_far(self):
        questions = """
            basket 5
            ware food 50 1
            never five
            never cup
            unlike
            spill
            basket 0 member
            ware tea 20 1
            never cup
            spill
            never tenth
        """
        # [tenth, five]: 50 - 5 = 45, less than 50: that spills; behind five nothing is left, so both are alike.
        self.assertEqual(told(questions, LOOKED_OVER), [
            (0, ["tenth", "five"]), None, None, (0, ["tenth", "five"], 1),
            (1, ["tenth", "five", "cup"]), (0, ["tenth", "five"], 1), (0, ["tenth"]),
        ])

    def test_unlike(self):
        questions = "unlike\nbasket 0\nware food 60 1\nunlike\nbasket 9\nbasket 0\nware food 100 1\nunlike"
        # Of 60: 54 - 50 = 4 and 10 - 1 = 9.
        self.assertEqual(told(questions, LOOKED_OVER), [
            None, (0, ["tenth", "five"], ["five", "tenth"]), (0, ["tenth", "five"], ["five", "tenth"]),
        ])
        questions = "basket 9\nbasket 0\nware food 50 1\nunlike\nbasket 0\nware food 100 1\nbasket 3\nunlike"
        self.assertEqual(told(questions, LOOKED_OVER), [None, (2, ["tenth", "five"], ["five", "tenth"])])

    def test_as_the_baskets_are_by_then(self):
        questions = "basket 0\nspill\nware food 40 1\nspill\nware food 20 1\nspill\nware tea 5 1\nspill"
        # Of 40 tenth leaves 36, of 60 it leaves 54; of 65 tenth and five leave nothing of the tea.
        self.assertEqual(told(questions, LOOKED_OVER), [
            None, (0, ["tenth", "five"], 1), None, (0, ["tenth", "five", "cup"], 2),
        ])

    def test_as_the_till_is_by_then(self):
        questions = "basket 0\nware food 60 1\nunlike\nrule tenth ahead five\nunlike\nspill\nvoucher all off 61\nspill"
        self.assertEqual(told(questions, LOOKED_OVER), [
            (0, ["tenth", "five"], ["five", "tenth"]), None, None, (0, ["tenth", "five", "all"], 2),
        ])

    def test_one_of_each_is_held_whatever_the_hands(self):
        begun = LOOKED_OVER + "basket 0\nware food 60 1\n"
        wanted = [(0, ["tenth", "five"]), (0, ["tenth", "five"], ["five", "tenth"]), None]
        for hold in ("", "hold five 0\n", "hold five 5\nhold tenth 5\n", "hold five 1\nhold tenth 1\n"):
            self.assertEqual(told("never five\nunlike\nspill", begun + hold), wanted, hold)

    def test_an_account_changes_nothing_of_them(self):
        begun = LOOKED_OVER + "basket 0\nware food 60 1\nbuy\ntake 0 1\n"
        self.assertEqual(told("unlike", begun)[-1], (0, ["tenth", "five"], ["five", "tenth"]))

    def test_never_of_each(self):
        begun = LOOKED_OVER + "voucher gone off 5 needs 1000\nbasket 3\nware food 70 1\nware tea 30 1\n"
        self.assertEqual(told("never tenth\nnever five\nnever cup\nnever gone", begun), [
            (0, ["tenth"]), (0, ["tenth", "five"]), (0, ["tenth", "five", "cup"]), None,
        ])


class KeptApart(unittest.TestCase):
    TEXT = BEGUN + """
        best
        best
        buy half ten free
        take 0 1
        take 1 1
        use
        never half
        never half
        unlike
        unlike
        voucher vast off 1000000000000
        spill
        spill
    """

    def test_no_two_lists_are_one(self):
        self.assertTrue(share_no_list(answers(self.TEXT), answers(self.TEXT)))

    def test_a_list_of_names_in_each(self):
        names = [part for each in answers(self.TEXT) for part in each[2] if isinstance(part, list)]
        self.assertEqual(len(names), 2 + 2 + 2 + 4 + 2)

    def test_change_of_what_was_told_changes_no_other(self):
        one, other = answers(self.TEXT), answers(self.TEXT)
        before = seen(other)
        for each in one:
            for part in each[2]:
                if isinstance(part, list):
                    part.append("more")
        one.clear()
        self.assertEqual(seen(other), before)
        self.assertEqual(seen(answers(self.TEXT)), before)

    def test_nothing_stays_of_an_earlier_text(self):
        before = answers(self.TEXT)
        answers("kind food\nvoucher ten off 1\nback shares\nbasket 5\nhold ten 5\nbuy ten")
        self.assertEqual(answers(self.TEXT), before)
        self.assertEqual(told_of("basket 1\ntake 0 1"), ["NoAccount"])

    def test_nothing_stays_of_a_refused_text(self):
        before = answers(self.TEXT)
        for text in ("kind food\nkind food", "basket 5\nbuy\nwhat"):
            with self.assertRaises(ValueError):
                answers(text)
        self.assertEqual(answers(self.TEXT), before)


if __name__ == "__main__":
    unittest.main()

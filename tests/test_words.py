"""[24] Texts, lines, words, names, the kept words and numbers."""

import unittest

from helper import KEPT, refusal_of, told_of
from voucherstack.answers import answers

LETTERS = "abcdefghijklmnopqrstuvwxyz"

# Line 1 to 4; each form below is line 5, with a name in the place of the underline.
BEGUN = "kind food\nvoucher ten off 10\nbasket 5\nware food 100 1\n"
NEW_NAMES = ("kind _", "kind _ under food", "voucher _ off 1", "voucher _ carriage once")
KINDS = ("kind more under _", "voucher more off 1 of _", "voucher more carriage once of _ lone", "ware _ 1 1",
         "ware _ 1 1 special 1")
VOUCHERS = ("rule _ only ten", "rule ten only _", "rule ten never _", "rule _ ahead ten", "rule ten behind _",
            "hold _ 1", "use _", "use ten _ ten", "buy _", "buy ten ten _", "never _")
NUMBERS = ("voucher more off _", "voucher more bundle 2 _", "voucher more carriage needs _",
           "voucher more off 1 most _ once", "basket _", "basket _ member", "ware food _ 1", "ware food 1 1 special _",
           "take _ 1", "take 0 _")


def with_line(form, word):
    return BEGUN + form.replace("_", word)


class Lines(unittest.TestCase):
    def test_empty(self):
        self.assertEqual(answers(""), [])

    def test_blanks_and_line_ends_alone(self):
        for text in (" ", "     ", "\n", "\n\n\n", " \n", "\n ", "   \n\n \n     \n"):
            self.assertEqual(answers(text), [], repr(text))

    def test_counted_from_1(self):
        self.assertEqual(answers("unlike"), [(1, "unlike", None)])
        self.assertEqual(answers("unlike\nspill"), [(1, "unlike", None), (2, "spill", None)])

    def test_lines_without_words_are_counted_too(self):
        self.assertEqual(answers("\n\nunlike\n\n   \nspill\n\n"), [(3, "unlike", None), (6, "spill", None)])
        self.assertEqual(refusal_of("\n \n\nwhat\n"), ("BadText", 4))

    def test_with_and_without_a_line_end_at_the_end(self):
        for end in ("", "\n", "\n\n", "\n  "):
            self.assertEqual(answers("basket 5\nuse" + end), [(2, "use", ("price", 5))])

    def test_several_blanks(self):
        text = "  kind   food\n kind tea  under    food  \nbasket    5   member  \n   ware tea  7   2 \n  use  "
        self.assertEqual(answers(text), [(5, "use", ("price", 19))])

    def test_no_blank_between(self):
        self.assertEqual(refusal_of("kindfood"), ("BadText", 1))
        self.assertEqual(refusal_of("basket5"), ("BadText", 1))

    def test_a_line_end_parts_lines_not_words(self):
        self.assertEqual(refusal_of("kind\nfood"), ("BadText", 1))
        self.assertEqual(refusal_of("kind food\nunder food"), ("BadText", 2))

    def test_large_letters(self):
        for text in ("Kind food", "KIND food", "kind Food", "Unlike", "basket 5 Member", "back Again"):
            self.assertEqual(refusal_of(text), ("BadText", 1), text)

    def test_other_signs_make_words_that_can_stand_nowhere(self):
        for text in ("unlike\t", "kind\tfood", "unlike\r\n", "\t", "\x0bunlike", "basket 5\x0c", "kind \u00e9",
                     "basket \u0661", "kind%a", "basket\u00a05"):
            self.assertEqual(refusal_of(text), ("BadText", 1), repr(text))


class Names(unittest.TestCase):
    def check(self, name):
        for form in NEW_NAMES:
            self.assertIsNone(refusal_of(with_line(form, name)), (form, name))
        for form in KINDS:
            self.assertIsNone(refusal_of("kind " + name + "\n" + with_line(form, name)), (form, name))
            self.assertEqual(refusal_of(with_line(form, name)), ("NoName", 5), (form, name))
        for form in VOUCHERS:
            self.assertIsNone(refusal_of("voucher " + name + " off 2\n" + with_line(form, name)), (form, name))
            self.assertEqual(refusal_of(with_line(form, name)), ("NoName", 5), (form, name))

    def check_bad(self, word):
        for form in NEW_NAMES + KINDS + VOUCHERS:
            self.assertEqual(refusal_of(with_line(form, word)), ("BadText", 5), (form, word))

    def test_1_letter(self):
        for letter in LETTERS:
            self.assertIsNone(refusal_of(with_line("kind _", letter)))
        for letter in "amz":
            self.check(letter)

    def test_12_letters(self):
        self.check("abcdefghijkl")
        self.check("opqrstuvwxyz")
        self.check("zzzzzzzzzzzz")

    def test_13_letters(self):
        self.check_bad("abcdefghijklm")
        self.check_bad("a" * 13)
        self.check_bad("a" * 100)

    def test_other_signs(self):
        for word in ("A", "aB", "Ab", "a1", "1a", "1", "0", "a_b", "a-b", "a.b", "a,", "~", "a~", "!a", "`", "{", "@",
                     "[", "a'b", "\"a\"", "a/b", "\\a", "#", "a#b", "$a", "&", "a=1", "(a)", "a;", "a:b", "?"):
            self.check_bad(word)

    def test_each_kept_word(self):
        self.assertEqual(len(KEPT), 33)
        for word in KEPT:
            self.check_bad(word)

    def test_words_that_are_not_kept(self):
        for word in ("kinds", "kin", "unders", "offs", "shar", "lines", "o", "f", "need", "mos", "members", "one", "at",
                     "rules", "for", "aheads", "before", "alike", "wares", "sold", "used", "buys", "takes", "like",
                     "spills", "name", "number", "price", "fault", "held", "nothing", "noaccount", "nopieces", "none"):
            self.check(word)

    def test_names_tell_apart_letter_by_letter(self):
        text = "kind ab\nkind ba\nkind a\nkind aba\nbasket 0\nware ba 7 1\nvoucher x off 5 of ba\nhold x 1\nuse x"
        self.assertEqual(told_of(text), [("price", 2)])
        self.assertEqual(told_of(text.replace("of ba", "of ab")), [("fault", 0, "nothing")])


class CoinNumbers(unittest.TestCase):
    def check(self, number):
        for form in NUMBERS:
            self.assertIsNone(refusal_of(with_line(form, number)), (form, number))

    def check_bad(self, word):
        for form in NUMBERS:
            self.assertEqual(refusal_of(with_line(form, word)), ("BadText", 5), (form, word))

    def test_in_the_bounds(self):
        for number in ("0", "1", "9", "10", "100", "909", "999999999999", "1000000000000"):
            self.check(number)
            self.assertEqual(told_of("basket " + number + "\nuse"), [("price", int(number))])

    def test_above_10_to_the_12(self):
        for number in ("1000000000001", "1000000000010", "2000000000000", "9999999999999"):
            self.check_bad(number)

    def test_14_figures(self):
        for number in ("10000000000000", "99999999999999", "00000000000000", "1" * 50, "1" * 5000):
            self.check_bad(number)

    def test_a_figure_0_ahead(self):
        for number in ("00", "01", "007", "0000000000000", "0000000000001", "01000000000000"):
            self.check_bad(number)

    def test_other_words(self):
        for word in ("-1", "+1", "-0", "1.0", "1.", "1e3", "1_000", "0x1", "1,0", "a", "ten", "o", "food", "/", ":",
                     "1/", ":1", "1a", "line", "member", "special"):
            self.check_bad(word)

    def test_each_figure(self):
        for figure in "0123456789":
            self.assertEqual(told_of("basket 1" + figure + "\nuse"), [("price", 10 + int(figure))])


if __name__ == "__main__":
    unittest.main()

"""[29] The refusals of a text: which class, at which line, and which of several faults decides."""

import itertools
import re
import unittest

from helper import KEPT, Numbers, made_text, mixed, refusal_of, told_of
from voucherstack.answers import answers
from voucherstack.errors import BadText, LineError, NoName, NoPieces, NotLet, TillError, TooMany, Twice

# Lines 1 to 7, with all that a further line may speak of.
BEGUN = "kind food\nkind tea\nvoucher ten off 10\nvoucher post carriage\nbasket 5\nware food 100 1\nhold ten 1\n"
# Each form of a line; none of these is refused behind BEGUN.
WHOLE_LINES = (
    "kind more", "kind more under food",
    "voucher more off 1", "voucher more share 1 line", "voucher more share 1 basket", "voucher more cheapest 2",
    "voucher more bundle 2 1", "voucher more carriage",
    "voucher more off 1 of food needs 1 most 1 member once lone",
    "voucher more carriage lone once member most 1 needs 1 of food",
    "rule ten only post", "rule ten never post", "rule ten ahead post", "rule ten behind post",
    "back again", "back shares", "basket 1", "basket 1 member", "ware food 1 1", "ware food 1 1 special 1",
    "hold ten 1", "use ten post", "buy ten post", "best", "take 0 1", "never ten", "unlike", "spill",
)
# What is whole, too, where words are taken from the end of one of WHOLE_LINES.
SHORTER_LINES = re.compile(
    r"kind more|voucher more (off 1|carriage)( of food| needs 1| most 1| member| once| lone)*"
    r"|basket 1|ware food 1 1|use( ten)?|buy( ten)?"
)

MARKS = ("of KIND", "needs COINS", "most COINS", "member", "once", "lone")
SORTS = ("off COINS", "share 1..1000 line", "share 1..1000 basket", "cheapest 2..20", "bundle 2..20 COINS", "carriage")
FORMS = [
    "kind NEW", "kind NEW under KIND", "rule VOUCHER only VOUCHER", "rule VOUCHER never VOUCHER",
    "rule VOUCHER ahead VOUCHER", "rule VOUCHER behind VOUCHER", "back again", "back shares", "basket COINS",
    "basket COINS member", "ware KIND COINS 0..20", "ware KIND COINS 0..20 special COINS", "hold VOUCHER 0..5", "best",
    "take COINS COINS", "never VOUCHER", "unlike", "spill",
] + [word + " VOUCHER" * many for word in ("use", "buy") for many in range(9)] + [
    " ".join(("voucher NEW", sort) + marks)
    for sort in SORTS for many in range(7) for marks in itertools.permutations(MARKS, many)
]
NEED_A_BASKET = ("ware", "hold", "use", "best", "buy", "take")


def tree_of_forms():
    """Dicts within dicts: by each slot what may stand behind it, and by None that the line may end."""
    tree = {}
    for form in FORMS:
        node = tree
        for slot in form.split():
            node = node.setdefault(slot, {})
        node[None] = True
    return tree


TREE = tree_of_forms()


class ByWords:
    """Goes through a text by the words of [29], without any price, and keeps where its questions are."""

    def __init__(self):
        self.kinds, self.vouchers, self.rules, self.baskets = [], [], 0, []
        self.questions = []

    def refusal(self, text):
        for line, row in enumerate(re.split("\n", text), 1):
            words = re.findall("[^ ]+", row)
            due = words and (self.due_in_words(words) or self.due_behind(words))
            if due:
                return (due, line)
            if words and words[0] in ("use", "best", "buy", "take", "never", "unlike", "spill"):
                self.questions.append((line, words[0]))
        return None

    def due_in_words(self, words):
        if words[0] in NEED_A_BASKET and not self.baskets:
            return "BadText"
        node = TREE
        for word in words:
            fitting = [slot for slot in node if slot is not None and self.fits(slot, word)]
            if not fitting:
                return self.due_at(node, word)
            node = node[fitting[0]]
        return None if None in node else "BadText"

    def fits(self, slot, word):
        bounds = re.fullmatch(r"(\d+)\.\.(\d+)", slot.replace("COINS", "0..1000000000000"))
        if bounds:
            number = re.fullmatch("0|[1-9][0-9]{0,12}", word)
            return bool(number) and int(bounds[1]) <= int(word) <= int(bounds[2])
        if slot == "NEW":
            return self.is_name(word) and word not in self.kinds + self.vouchers
        if slot == "KIND":
            return self.is_name(word) and word in self.kinds
        if slot == "VOUCHER":
            return self.is_name(word) and word in self.vouchers
        return slot == word

    def is_name(self, word):
        return bool(re.fullmatch("[a-z]{1,12}", word)) and word not in KEPT

    def due_at(self, node, word):
        if self.is_name(word) and "NEW" in node:
            return "Twice"
        if self.is_name(word) and ("KIND" in node or "VOUCHER" in node):
            return "NoName"
        return "BadText"

    def due_behind(self, words):
        """Takes in what the line tells, and TooMany where that was one too many."""
        first = words[0]
        if first == "kind":
            self.kinds.append(words[1])
        if first == "voucher":
            self.vouchers.append(words[1])
        if first == "basket":
            self.baskets.append(([], {}))
        self.rules += first == "rule"
        if first == "ware":
            self.baskets[-1][0].append(int(words[3]))
        if first == "hold":
            self.baskets[-1][1][words[1]] = int(words[2])
        pieces, held = self.baskets[-1] if self.baskets else ([], {})
        beyond = [len(self.kinds) > 20, len(self.vouchers) > 8, len(self.baskets) > 20, self.rules > 20,
                  len(pieces) > 12, sum(pieces) > 60, first == "best" and sum(held.values()) > 5,
                  first in ("never", "unlike", "spill") and len(self.vouchers) > 4]
        return "TooMany" if any(beyond) else None


class Classes(unittest.TestCase):
    def check(self, text, refusal, line=3):
        with self.assertRaises(refusal) as caught:
            answers(text)
        self.assertIs(type(caught.exception), refusal)
        for other in (BadText, NoName, Twice, TooMany, NotLet, NoPieces):
            self.assertEqual(isinstance(caught.exception, other), other == refusal)
        for family in (LineError, TillError, ValueError):
            self.assertIsInstance(caught.exception, family)
        self.assertEqual((type(caught.exception.line), caught.exception.line), (int, line))

    def test_each(self):
        self.check("kind food\n\nkind", BadText)
        self.check("kind food\n\nkind bread under tea", NoName)
        self.check("kind food\n\nkind food", Twice)
        self.check("\n" * 20 + "basket 0\n" * 21, TooMany, 41)


class FirstWord(unittest.TestCase):
    def test_what_no_line_begins_with(self):
        for word in ("under off share line cheapest bundle carriage of needs most member once lone only ahead behind "
                     "again shares special food x 5 Kind kinds #").split():
            self.assertEqual(refusal_of(BEGUN + word), ("BadText", 8), word)
            self.assertEqual(refusal_of(f"{BEGUN}{word} more"), ("BadText", 8), word)

    def test_where_no_basket_was_begun(self):
        begun = "kind food\nvoucher ten off 10\n"
        for line in ("ware food 1 1", "hold ten 1", "use", "use ten", "best", "buy", "buy ten", "take 0 1",
                     "ware", "ware nothing", "hold nothing", "hold", "use nothing", "buy nothing", "take", "best best"):
            self.assertEqual(refusal_of(begun + line), ("BadText", 3), line)
            self.assertEqual(refusal_of(begun + line + "\nbasket 0"), ("BadText", 3), line)
        for line in ("unlike", "spill", "never ten"):
            self.assertEqual(told_of(begun + line), [None], line)

    def test_once_a_basket_was_begun(self):
        begun = "kind food\nvoucher ten off 10\nbasket 0\n"
        for line in ("ware food 1 1", "hold ten 1", "use", "use ten", "best", "buy", "buy ten", "take 0 1"):
            self.assertIsNone(refusal_of(begun + line), line)

    def test_a_refused_basket_is_none(self):
        self.assertEqual(refusal_of("basket\nuse"), ("BadText", 1))


class WordsOfALine(unittest.TestCase):
    def test_whole_lines(self):
        for line in WHOLE_LINES:
            self.assertIsNone(refusal_of(BEGUN + line), line)

    def test_a_word_too_few(self):
        for line in WHOLE_LINES:
            words = line.split()
            for many in range(1, len(words)):
                shorter = " ".join(words[:many])
                due = None if SHORTER_LINES.fullmatch(shorter) else ("BadText", 8)
                self.assertEqual(refusal_of(BEGUN + shorter), due, shorter)
                self.assertEqual(refusal_of(f"{BEGUN}{shorter}\n\nunlike"), due, shorter)

    def test_a_word_too_many(self):
        for line in WHOLE_LINES:
            for word in ("food", "ten", "what", "1", "0", "line", "basket", "special", "member", "under", "of", "use"):
                longer = f"{line} {word}"
                if longer.startswith(("use", "buy")):
                    due = {"ten": None, "food": ("NoName", 8), "what": ("NoName", 8)}.get(word, ("BadText", 8))
                elif word == "member" and line.split()[0] in ("basket", "voucher"):
                    due = None if longer.count("member") == 1 else ("BadText", 8)
                else:
                    due = ("BadText", 8)
                self.assertEqual(refusal_of(BEGUN + longer), due, longer)

    def test_a_word_left_out_within(self):
        for line in ("kind under food", "kind more food", "voucher off 1", "voucher more 1", "voucher more share line",
                     "voucher more off 1 of lone", "rule only post", "rule ten post", "basket member",
                     "ware food 1 special 1", "ware food 1 1 1", "hold 1", "take 1"):
            self.assertEqual(refusal_of(BEGUN + line), ("BadText", 8), line)

    def test_words_behind_questions(self):
        for line in ("best ten", "best 1", "unlike ten", "unlike 1", "spill ten", "spill spill", "never ten ten",
                     "take 0 1 1", "take 0 1 ten", "take", "take 0", "never", "take ten 1", "take 0 ten"):
            self.assertEqual(refusal_of(BEGUN + line), ("BadText", 8), line)

    def test_a_ninth_word_behind_use_or_buy(self):
        for word in ("use", "buy"):
            self.assertIsNone(refusal_of(BEGUN + word + " ten" * 8))
            for ninth in ("ten", "food", "what", "use", "1", "ten ten"):
                self.assertEqual(refusal_of(BEGUN + word + " ten" * 8 + " " + ninth), ("BadText", 8), ninth)
            self.assertEqual(refusal_of(BEGUN + word + " ten" * 7 + " what ten"), ("NoName", 8))
            self.assertEqual(refusal_of(BEGUN + word + " ten" * 20), ("BadText", 8))


class WhichNames(unittest.TestCase):
    def test_no_name(self):
        for line in ("kind more under ten", "kind more under what", "voucher more off 1 of ten",
                     "voucher more off 1 once of what", "ware ten 1 1", "ware what 1 1", "rule food only ten",
                     "rule ten only food", "rule what never ten", "rule ten behind what", "hold food 1", "hold what 1",
                     "use what", "use food", "use ten what", "buy what", "buy ten ten food", "never what", "never food",
                     "kind more under more", "voucher more off 1 of more"):
            self.assertEqual(refusal_of(BEGUN + line), ("NoName", 8), line)

    def test_twice(self):
        for name in ("food", "tea", "ten", "post"):
            for line in ("kind _", "kind _ under food", "voucher _ off 1", "voucher _ carriage"):
                self.assertEqual(refusal_of(BEGUN + line.replace("_", name)), ("Twice", 8), line)

    def test_a_refused_text_tells_nothing(self):
        with self.assertRaises(BadText):
            answers(BEGUN + "use\nuse ten\nwhat")


class FirstOfSeveral(unittest.TestCase):
    FAULTS = (("kind", "BadText"), ("kind more under what", "NoName"), ("kind food", "Twice"))

    def test_the_first_line(self):
        for one, other in itertools.product(self.FAULTS, self.FAULTS):
            self.assertEqual(refusal_of(f"{BEGUN}{one[0]}\n\n{other[0]}"), (one[1], 8), (one, other))
            self.assertEqual(refusal_of(f"{BEGUN}\nunlike\n{other[0]}\n{one[0]}"), (other[1], 10), (one, other))

    def test_too_many_ahead_of_a_later_line_and_behind_an_earlier_one(self):
        for line, due in self.FAULTS:
            self.assertEqual(refusal_of("kind food\n" + "basket 0\n" * 21 + line), ("TooMany", 22))
            self.assertEqual(refusal_of("kind food\n" + "basket 0\n" * 20 + line + "\nbasket 0"), (due, 22))

    def test_a_question_that_tells_a_fault_is_no_refusal(self):
        self.assertEqual(told_of(BEGUN + "use post\ntake 0 1\nbuy post"),
                         [("fault", 0, "held"), "NoAccount", ("fault", 0, "held")])

    def test_the_first_word(self):
        for line, due in (
            ("kind food under what", "Twice"), ("kind food what", "Twice"), ("kind food under", "Twice"),
            ("kind Food under what", "BadText"), ("kind more over what", "BadText"),
            ("kind more under what 5", "NoName"), ("kind more what food", "BadText"),
            ("voucher ten", "Twice"), ("voucher ten off x", "Twice"), ("voucher ten what", "Twice"),
            ("voucher more of what", "BadText"), ("voucher more off 1 of what of what", "NoName"),
            ("voucher more off 1 of what 5", "NoName"), ("voucher more off 1 once once of what", "BadText"),
            ("voucher more off 1 of food of what", "BadText"), ("voucher more off x of what", "BadText"),
            ("voucher more off 1 of what once once", "NoName"), ("voucher more share 0 of what", "BadText"),
            ("voucher more off 1 of what needs", "NoName"), ("voucher more share 1 of what", "BadText"),
            ("voucher more cheapest 21 of what", "BadText"), ("voucher more bundle 2 of what", "BadText"),
            ("rule what only", "NoName"), ("rule what off food", "NoName"), ("rule ten off what", "BadText"),
            ("rule ten only what 5", "NoName"), ("rule 5 only what", "BadText"), ("rule what", "NoName"),
            ("rule ten what post", "BadText"), ("rule ten only post what", "BadText"),
            ("ware what", "NoName"), ("ware what x y", "NoName"), ("ware food x 21", "BadText"),
            ("ware 5 what", "BadText"), ("ware what 1 21", "NoName"),
            ("hold what 6", "NoName"), ("hold what", "NoName"), ("hold 6 what", "BadText"),
            ("hold ten 6 what", "BadText"),
            ("use what 5", "NoName"), ("use 5 what", "BadText"), ("use ten use what", "BadText"),
            ("use ten what use", "NoName"), ("buy what buy", "NoName"), ("buy buy what", "BadText"),
            ("never what what", "NoName"), ("never ten what", "BadText"), ("never 5 what", "BadText"),
            ("best what", "BadText"), ("unlike what", "BadText"), ("what food", "BadText"), ("under what", "BadText"),
        ):
            self.assertEqual(refusal_of(BEGUN + line), (due, 8), line)


class AsManyAsThereMayBe(unittest.TestCase):
    def check(self, begun, lines, further):
        """As many lines as there may be are let by, one more is not; a fault in its words goes ahead of that."""
        whole = begun + "".join(line + "\n" for line in lines)
        number = whole.count("\n") + 1
        self.assertIsNone(refusal_of(whole))
        for line, due in further:
            self.assertEqual(refusal_of(whole + line), (due, number), line)

    def test_kinds(self):
        names = [f"k{letter}" for letter in "abcdefghijklmnopqrst"]
        self.assertEqual(len(names), 20)
        self.check("basket 0\nvoucher x off 1\n", [f"kind {name}" for name in names], [
            ("kind more", "TooMany"), ("kind more under ka", "TooMany"), ("kind kt", "Twice"), ("kind x", "Twice"),
            ("kind more under what", "NoName"), ("kind more under", "BadText"), ("kind", "BadText"),
            ("kind more ka", "BadText"), ("kind more under ka ka", "BadText"),
        ])

    def test_vouchers(self):
        lines = [f"voucher v{letter} off 1" for letter in "abcdefgh"]
        self.check("kind food\n", lines, [
            ("voucher more off 1", "TooMany"), ("voucher more carriage of food once", "TooMany"),
            ("voucher vh off 1", "Twice"), ("voucher food off 1", "Twice"), ("voucher more off", "BadText"),
            ("voucher more off 1 of what", "NoName"), ("voucher more off 1 once once", "BadText"),
        ])

    def test_rules(self):
        self.check("voucher a off 1\nvoucher b off 1\n", ["rule a only b"] * 20, [
            ("rule a only b", "TooMany"), ("rule b behind a", "TooMany"), ("rule a only what", "NoName"),
            ("rule a only", "BadText"), ("rule a only b b", "BadText"),
        ])

    def test_baskets(self):
        self.check("", ["basket 0"] * 20, [
            ("basket 0", "TooMany"), ("basket 5 member", "TooMany"), ("basket", "BadText"), ("basket 0 0", "BadText"),
        ])

    def test_lines_of_a_basket(self):
        for ware in ("ware food 1 5", "ware food 1 0", "ware food 1 0 special 1"):
            self.check("kind food\nbasket 0\n", [ware] * 12, [
                (ware, "TooMany"), ("ware food 1 0", "TooMany"), ("ware what 1 1", "NoName"),
                ("ware food 1 21", "BadText"), ("ware food 1", "BadText"), ("ware food 1 1 1", "BadText"),
            ])

    def test_pieces_of_a_basket(self):
        for lines in (["ware food 1 20"] * 3, ["ware food 1 19"] * 3 + ["ware food 1 3"]):
            self.check("kind food\nbasket 0\n", lines, [
                ("ware food 1 1", "TooMany"), ("ware food 1 20", "TooMany"), ("ware food 1 21", "BadText"),
                ("ware what 1 1", "NoName"), ("ware food 1 1 special", "BadText"),
            ])
            self.check("kind food\nbasket 0\n", lines + ["ware food 1 0"], [("ware food 1 1 special 1", "TooMany")])
        self.check("kind food\nbasket 0\n", ["ware food 1 20", "ware food 1 20", "ware food 1 19"], [
            ("ware food 1 2", "TooMany"), ("ware food 1 3", "TooMany"),
        ])
        self.check("kind food\nbasket 0\n", ["ware food 1 20"] * 2 + ["ware food 1 19", "ware food 1 1"], [])

    def test_each_basket_has_lines_and_pieces_of_its_own(self):
        for ware in ("ware food 1 5\n" * 12, "ware food 1 20\n" * 3):
            self.assertIsNone(refusal_of("kind food\n" + ("basket 0\n" + ware) * 20))

    def test_held_at_a_best(self):
        begun = "kind food\nvoucher a off 1\nvoucher b off 1\nbasket 0\nware food 100 1\n"
        for holds in (["hold a 5"], ["hold a 3", "hold b 2"], ["hold a 5", "hold b 4", "hold a 1"]):
            self.check(begun, holds + ["best"], [])
        for holds in (["hold a 5", "hold b 1"], ["hold a 3", "hold b 3"], ["hold a 5", "hold b 5"]):
            self.check(begun, holds, [("best", "TooMany"), ("best best", "BadText"), ("best 1", "BadText")])
            self.check(begun, holds + ["use a", "buy a", "take 0 1", "unlike", "spill", "never a"], [])
            self.check(begun, holds + ["basket 0", "best"], [])
            self.check(begun, holds + ["hold a 0", "best"], [])

    def test_vouchers_at_a_look(self):
        four = [f"voucher v{letter} off 1" for letter in "abcd"]
        self.check("", four + ["never vd", "unlike", "spill"], [])
        for begun in ("", "basket 0\n", "kind food\nbasket 0\nware food 5 1\n"):
            self.check(begun, four + ["voucher ve carriage"], [
                ("never va", "TooMany"), ("never ve", "TooMany"), ("unlike", "TooMany"), ("spill", "TooMany"),
                ("never what", "NoName"), ("never", "BadText"), ("never va va", "BadText"), ("unlike va", "BadText"),
                ("spill 1", "BadText"),
            ])
        self.check("", four + ["voucher ve carriage", "basket 0", "use", "best", "buy", "take 0 1"], [])


class ByTheWords(unittest.TestCase):
    """Many made-up texts, whole and spoiled, held against another reading of the same promise."""

    WORDS = KEPT + (
        "a b food what Abc a1 abcdefghijklm 0 1 2 5 6 20 21 1000 1001 00 01 1000000000000 1000000000001 "
        "99999999999999 -1 ~"
    ).split()

    def spoiled(self, numbers, rows):
        """The rows with some words left out, put in, changed, or put in another place; or a row put elsewhere."""
        rows = [row.split() for row in rows]
        for place in range(numbers.below(3)):
            row = numbers.one_of(rows)
            at = numbers.below(len(row) + 1)
            known = numbers.one_of(rows)
            word = numbers.one_of(self.WORDS + known)
            row[at:at + numbers.below(2)] = [word] * numbers.below(3)
        for place in range(numbers.below(3)):
            at = numbers.below(len(rows) + 1)
            rows[at:at] = [list(numbers.one_of(rows))] * numbers.one_of([1, 1, 1, 12, 20])
        if numbers.below(8) == 0:
            rows = mixed(numbers, rows)
        return "\n".join(" ".join(row) for row in rows)

    def check(self, text, found):
        by_words = ByWords()
        due = by_words.refusal(text)
        try:
            told = [(line, word) for line, word, each in answers(text)]
            self.assertIsNone(due, text)
            self.assertEqual(told, by_words.questions, text)
        except LineError as error:
            self.assertEqual((type(error).__name__, error.line), due, text)
        name = due[0] if due else None
        found[name] = found.get(name, 0) + 1

    def test_whole_texts(self):
        numbers, found = Numbers(29), {}
        for place in range(60):
            self.check(made_text(numbers, 30).text(), found)
        self.assertEqual(found, {None: 60})

    def test_spoiled_texts(self):
        numbers, found = Numbers(30), {}
        for place in range(250):
            rows = made_text(numbers, 15).rows
            for turn in range(8):
                self.check(self.spoiled(numbers, rows), found)
        self.assertEqual(set(found), {None, "BadText", "NoName", "Twice", "TooMany"})
        self.assertGreater(min(found.values()), 20, found)

    def test_lines_of_words_put_together_by_chance(self):
        numbers, found = Numbers(31), {}
        begun = BEGUN + "voucher a off 1\nkind b\n"
        for place in range(4000):
            form = numbers.one_of(FORMS[:18] * 4 + FORMS[18:36] * 2 + FORMS[36:]).split()
            words = []
            for slot in form:
                choice = {"NEW": ["what", "more", "a"], "KIND": ["food", "b", "ten"], "VOUCHER": ["ten", "a", "b"],
                          "COINS": ["1", "0", "1000000000000"]}.get(slot, [slot.split(".")[-1]])
                words.append(numbers.one_of(choice + choice + choice[:1] * 20 + [numbers.one_of(self.WORDS)]))
            self.check(begun + " ".join(words) + "\nunlike", found)
        self.assertEqual(set(found), {None, "BadText", "NoName", "Twice"})
        self.assertGreater(min(found.values()), 20, found)


if __name__ == "__main__":
    unittest.main()

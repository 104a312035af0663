"""A text of a till, its baskets and questions about them, and what is told to each question."""

from voucherstack.accounts import Account
from voucherstack.bills import priced
from voucherstack.errors import NoPieces, NotLet
from voucherstack.looks import first_spill, first_unlike, first_use
from voucherstack.search import best
from voucherstack.tilltext import TillText, read_telling
from voucherstack.words import rows_of

FIRST_WORDS = ("kind", "voucher", "rule", "back", "basket", "never", "unlike", "spill")
FIRST_WORDS_OF_A_BASKET = ("ware", "hold", "use", "best", "buy", "take")
MOST_USED = 8
MOST_HELD_AT_A_BEST = 5
MOST_VOUCHERS_AT_A_LOOK = 4


# What the questions of a text go by: what was told so far, and the account that was opened last.
class Desk(TillText):
    def __init__(self):
        TillText.__init__(self)
        self.account = None

    def names_of(self, order):
        return [self.voucher_names[number] for number in order]


def answers(text):
    desk = Desk()
    found = []
    for row in rows_of(text):
        word = row.next_of(first_words(desk))
        if word in QUESTIONS:
            found.append((row.line, word, QUESTIONS[word](row, desk)))
        else:
            read_telling(word, row, desk)
    return found


def first_words(desk):
    if len(desk.baskets) == 0:
        return FIRST_WORDS
    return FIRST_WORDS + FIRST_WORDS_OF_A_BASKET


def read_order(row, desk):
    order = []
    while row.has_more() and len(order) < MOST_USED:
        order.append(row.next_named(desk.voucher_names))
    row.must_end()
    return order


def ask_use(row, desk):
    order = read_order(row, desk)
    try:
        bill = priced(desk.till_so_far(), desk.basket_so_far(), desk.hand_so_far(), order)
    except NotLet as refusal:
        return ("fault", refusal.place, refusal.word)
    return ("price", bill.total)


def ask_best(row, desk):
    row.must_end()
    hand = desk.hand_so_far()
    row.must_keep_to(MOST_HELD_AT_A_BEST, sum(hand))
    found = best(desk.till_so_far(), desk.basket_so_far(), hand)
    return (desk.names_of(found[0]), found[1])


def ask_buy(row, desk):
    order = read_order(row, desk)
    # Ahead of the new account, as none stays open where that is refused.
    desk.account = None
    try:
        desk.account = Account(desk.till_so_far(), desk.basket_so_far(), desk.hand_so_far(), order)
    except NotLet as refusal:
        return ("fault", refusal.place, refusal.word)
    return ("price", desk.account.paid)


def ask_take(row, desk):
    line = row.next_coins()
    many = row.next_coins()
    row.must_end()
    account = desk.account
    if account is None:
        return "NoAccount"
    try:
        back = account.take_back(line, many)
    except NoPieces:
        return "NoPieces"
    return (back, account.paid, account.owed, desk.names_of(account.order))


def ask_never(row, desk):
    voucher = row.next_named(desk.voucher_names)
    till = till_for_a_look(row, desk)
    found = first_use(till, voucher, desk.baskets)
    return None if found is None else (found[0], desk.names_of(found[1]))


def ask_unlike(row, desk):
    till = till_for_a_look(row, desk)
    found = first_unlike(till, desk.baskets)
    return None if found is None else (found[0], desk.names_of(found[1]), desk.names_of(found[2]))


def ask_spill(row, desk):
    till = till_for_a_look(row, desk)
    found = first_spill(till, desk.baskets)
    return None if found is None else (found[0], desk.names_of(found[1]), found[2])


def till_for_a_look(row, desk):
    row.must_end()
    row.must_keep_to(MOST_VOUCHERS_AT_A_LOOK, len(desk.vouchers))
    return desk.till_so_far()


QUESTIONS = {
    "use": ask_use, "best": ask_best, "buy": ask_buy, "take": ask_take, "never": ask_never, "unlike": ask_unlike,
    "spill": ask_spill,
}

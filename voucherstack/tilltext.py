"""What the lines of a text tell of a till, of baskets and of what is held for them."""

from voucherstack.till import Till
from voucherstack.vouchers import Bundle, Carriage, Cheapest, Marks, Off, Share
from voucherstack.wares import Basket, Line

MARK_WORDS = ("of", "needs", "most", "member", "once", "lone")
MOST_KINDS = 20
MOST_VOUCHERS = 8
MOST_RULES = 20
MOST_BASKETS = 20
MOST_LINES = 12
MOST_PIECES = 60
MOST_OF_A_LINE = 20
MOST_HELD = 5


# A kind and a voucher have the number of their name's place.
class TillText:
    def __init__(self):
        self.kind_names = []
        self.parents = []
        self.voucher_names = []
        self.vouchers = []
        self.rules = []
        self.back = "again"
        self.baskets = []
        # A dict for each basket, not a list: vouchers may still be told behind the basket.
        self.held = []

    def names_so_far(self):
        return self.kind_names + self.voucher_names

    def till_so_far(self):
        return Till(self.parents, self.vouchers, self.rules, self.back)

    def basket_so_far(self):
        return self.baskets[-1]

    def hand_so_far(self):
        return [self.held[-1].get(number, 0) for number in range(len(self.vouchers))]


def read_telling(word, row, told):
    """Reads what stands in a line behind its first word, and keeps what it tells."""
    READERS[word](row, told)


def read_kind(row, told):
    name = row.next_new_name(told.names_so_far())
    parent = None
    if row.has_more():
        row.next_of(("under",))
        parent = row.next_named(told.kind_names)
    row.must_end()
    row.must_keep_to(MOST_KINDS, len(told.parents) + 1)
    told.kind_names.append(name)
    told.parents.append(parent)


def read_voucher(row, told):
    name = row.next_new_name(told.names_so_far())
    voucher = read_sort(row, told)
    row.must_keep_to(MOST_VOUCHERS, len(told.vouchers) + 1)
    told.voucher_names.append(name)
    told.vouchers.append(voucher)


def read_sort(row, told):
    sort = row.next_of(("off", "share", "cheapest", "bundle", "carriage"))
    # What is handed on is reckoned from left to right, so it stands here in the order of the words.
    if sort == "off":
        return Off(row.next_coins(), read_marks(row, told))
    if sort == "share":
        return Share(row.next_number(1, 1000), row.next_of(("line", "basket")) == "line", read_marks(row, told))
    if sort == "cheapest":
        return Cheapest(row.next_number(2, 20), read_marks(row, told))
    if sort == "bundle":
        return Bundle(row.next_number(2, 20), row.next_coins(), read_marks(row, told))
    return Carriage(read_marks(row, told))


def read_marks(row, told):
    found = {}
    while row.has_more():
        word = row.next_of([mark for mark in MARK_WORDS if mark not in found])
        found[word] = read_mark(word, row, told)
    return Marks(
        found.get("of"), found.get("needs", 0), found.get("most"), "member" in found, "once" in found, "lone" in found,
    )


def read_mark(word, row, told):
    if word == "of":
        return row.next_named(told.kind_names)
    if word == "needs" or word == "most":
        return row.next_coins()
    return True


def read_rule(row, told):
    one = row.next_named(told.voucher_names)
    word = row.next_of(("only", "never", "ahead", "behind"))
    other = row.next_named(told.voucher_names)
    row.must_end()
    row.must_keep_to(MOST_RULES, len(told.rules) + 1)
    told.rules.append(("ahead", other, one) if word == "behind" else (word, one, other))


def read_back(row, told):
    back = row.next_of(("again", "shares"))
    row.must_end()
    told.back = back


def read_basket(row, told):
    carriage = row.next_coins()
    member = row.has_more()
    if member:
        row.next_of(("member",))
    row.must_end()
    row.must_keep_to(MOST_BASKETS, len(told.baskets) + 1)
    told.baskets.append(Basket([], carriage, member))
    told.held.append({})


def read_ware(row, told):
    kind = row.next_named(told.kind_names)
    price = row.next_coins()
    many = row.next_number(0, MOST_OF_A_LINE)
    special = None
    if row.has_more():
        row.next_of(("special",))
        special = row.next_coins()
    row.must_end()
    add_line(Line(kind, price, many, special), row, told)


def add_line(line, row, told):
    basket = told.basket_so_far()
    lines = basket.lines + [line]
    row.must_keep_to(MOST_LINES, len(lines))
    row.must_keep_to(MOST_PIECES, sum([each.many for each in lines]))
    # A new basket in its place, as the fields of a basket are only read.
    told.baskets[-1] = Basket(lines, basket.carriage, basket.member)


def read_hold(row, told):
    number = row.next_named(told.voucher_names)
    many = row.next_number(0, MOST_HELD)
    row.must_end()
    told.held[-1][number] = many


READERS = {
    "kind": read_kind, "voucher": read_voucher, "rule": read_rule, "back": read_back, "basket": read_basket,
    "ware": read_ware, "hold": read_hold,
}

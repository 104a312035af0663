"""What several tests need: looks at all that objects hold, and many made-up cases and texts."""

from voucherstack.accounts import Account
from voucherstack.answers import answers
from voucherstack.bills import priced
from voucherstack.cutting import after, reach
from voucherstack.errors import LineError, NoPieces
from voucherstack.looks import first_spill, first_unlike, first_use
from voucherstack.rules import fault
from voucherstack.search import best
from voucherstack.till import Till
from voucherstack.vouchers import Bundle, Carriage, Cheapest, Marks, Off, Share
from voucherstack.wares import Basket, Line, Standing

# Two trees: 0 over 1 and 5, 1 over 2; and 3 over 4.
PARENTS = [None, 0, 1, None, 3, 0]

# As the document lists them.
KEPT = (
    "kind under voucher off share line basket cheapest bundle carriage of needs most member once lone rule only "
    "never ahead behind back again shares ware special hold use best buy take unlike spill"
).split()


def some_basket():
    """Prices 100, 100 of kind 2, 50 of kind 4, 30, 30, 30 of kind 1, and a line of no piece."""
    return Basket([Line(2, 100, 2), Line(4, 50, 1), Line(1, 30, 3), Line(0, 70, 0)], 490)


def seen(thing):
    """All that a thing holds, as it is now, with the kind of each value: unlike after any change."""
    name = type(thing).__name__
    if isinstance(thing, (list, tuple)):
        return (name, [seen(each) for each in thing])
    if hasattr(thing, "__dict__"):
        return (name, {field: seen(value) for field, value in vars(thing).items()})
    return (name, thing)


def lists_in(thing):
    """Each list that a thing holds or is, as often as it stands there."""
    if isinstance(thing, (list, tuple)):
        inner = [one for each in thing for one in lists_in(each)]
        return inner + [thing] if isinstance(thing, list) else inner
    if hasattr(thing, "__dict__"):
        return [one for value in vars(thing).values() for one in lists_in(value)]
    return []


def share_no_list(*things):
    numbers = [id(one) for thing in things for one in lists_in(thing)]
    return len(numbers) == len(set(numbers))


def standing_fields(standing):
    return (standing.owners, standing.prices, standing.carriage, standing.marked)


def behind(vouchers, parents, basket):
    """The standing that these vouchers leave, used one behind the other."""
    standing = Standing(basket)
    for voucher in vouchers:
        standing = after(voucher, parents, basket, standing)
    return standing


def standing_by(till, basket, order):
    """The standing that an order of a till's vouchers leaves, whether it is let by or not."""
    return behind([till.vouchers[number] for number in order], till.parents, basket)


def can_be_gone_on_with(till, basket, hand, order):
    due = fault(till, basket, hand, order)
    return due is None or due[1] == "only"


def least_by_words(till, basket, hand, order):
    standing = standing_by(till, basket, order)
    least = standing.whole()
    for number, voucher in enumerate(till.vouchers):
        come = hand[number] - len([each for each in order if each == number])
        if voucher.marks.once:
            come = min(come, 1) if number not in order else 0
        least = least - reach(voucher, till.parents, basket, standing) * come
    return least if least > 0 else 0


def ahead_in_lists(one, other):
    for left, right in zip(one, other):
        if left != right:
            return left < right
    return len(one) < len(other)


class Numbers:
    """Whole numbers that look mixed and are the same in each run."""

    def __init__(self, start):
        self.state = start

    def below(self, bound):
        self.state = (self.state * 6364136223846793005 + 1442695040888963407) % 2 ** 64
        return (self.state >> 33) % bound

    def one_of(self, things):
        return things[self.below(len(things))]


def made_marks(numbers):
    return Marks(
        kind=numbers.one_of([None, None, 0, 1, 2, 3, 5]),
        needs=numbers.one_of([0, 0, 0, 50, 400]),
        most=numbers.one_of([None, None, 0, 1, 7, 60, 500]),
        member=numbers.below(5) == 0,
        once=numbers.below(4) == 0,
        lone=numbers.below(3) == 0,
    )


def made_voucher(numbers):
    marks = made_marks(numbers)
    return [
        Off(numbers.one_of([0, 1, 13, 100, 100000]), marks),
        Share(numbers.one_of([1, 95, 333, 999, 1000]), False, marks),
        Share(numbers.one_of([1, 95, 333, 999, 1000]), True, marks),
        Cheapest(2 + numbers.below(4), marks),
        Bundle(2 + numbers.below(4), numbers.one_of([0, 20, 90, 200]), marks),
        Carriage(marks),
    ][numbers.below(6)]


def made_basket(numbers):
    lines = []
    for place in range(numbers.below(6)):
        special = numbers.one_of([None, None, 0, 11])
        lines.append(Line(numbers.below(len(PARENTS)), numbers.one_of([0, 1, 10, 33, 97]), numbers.below(5), special))
    return Basket(lines, numbers.one_of([0, 5, 490]), numbers.below(2) == 0)


def made_till(numbers, many, back="again"):
    """Most marks that hinder are taken off again, or hardly an order would be let by."""
    vouchers = [made_voucher(numbers) for place in range(many)]
    for voucher in vouchers:
        marks = voucher.marks
        marks.kind = marks.kind if numbers.below(3) == 0 else None
        marks.needs = marks.needs if numbers.below(2) == 0 else 0
        marks.most = marks.most if numbers.below(3) == 0 else None
        marks.member = marks.member and numbers.below(3) == 0
    rules = []
    for place in range(numbers.below(4)):
        rules.append((numbers.one_of(["only", "never", "ahead"]), numbers.below(many), numbers.below(many)))
    return Till(PARENTS, vouchers, rules, back)


def made_hand(numbers, many, held):
    """As many vouchers held in all as told, here one and there one."""
    hand = [0] * many
    for place in range(held):
        hand[numbers.below(many)] += 1
    return hand


def made_searches(many):
    """Tuples (till, basket, hand), of at most 4 held in all."""
    numbers = Numbers(many)
    cases = []
    for number in range(many):
        kinds = 1 + numbers.below(4)
        basket = made_basket(numbers)
        if numbers.below(8) > 0:
            basket = Basket([Line(2, 40, 2), Line(3, 25, 1, 20)] + basket.lines, basket.carriage, basket.member)
        cases.append((made_till(numbers, kinds), basket, made_hand(numbers, kinds, numbers.below(5))))
    return cases


def made_cases(many):
    """Tuples (vouchers, basket): some vouchers to be used one behind the other."""
    numbers = Numbers(many)
    cases = []
    for number in range(many):
        vouchers = [made_voucher(numbers) for place in range(1 + numbers.below(4))]
        cases.append((vouchers, made_basket(numbers)))
    return cases


def told_of(text):
    """What is told to each question of a text, without its line and word."""
    return [told for line, word, told in answers(text)]


def refusal_of(text):
    """The name of the class and the line with which a text is refused; None where it is not."""
    try:
        answers(text)
    except LineError as error:
        return (type(error).__name__, error.line)
    return None


def mixed(numbers, things):
    left, told = list(things), []
    while left:
        told.append(left.pop(numbers.below(len(left))))
    return told


def words_of_voucher(voucher, kind_names, numbers):
    """The words that tell a voucher, behind its name; the marks in any order."""
    marks = voucher.marks
    found = [["member"]] * marks.member + [["once"]] * marks.once + [["lone"]] * marks.lone
    if marks.kind is not None:
        found.append(["of", kind_names[marks.kind]])
    if marks.needs > 0 or numbers.below(4) == 0:
        found.append(["needs", str(marks.needs)])
    if marks.most is not None:
        found.append(["most", str(marks.most)])
    return words_of_sort(voucher) + [word for words in mixed(numbers, found) for word in words]


def words_of_sort(voucher):
    if isinstance(voucher, Off):
        return ["off", str(voucher.amount)]
    if isinstance(voucher, Share):
        return ["share", str(voucher.share), "line" if voucher.by_line else "basket"]
    if isinstance(voucher, Cheapest):
        return ["cheapest", str(voucher.many)]
    if isinstance(voucher, Bundle):
        return ["bundle", str(voucher.many), str(voucher.price)]
    return ["carriage"]


class MadeText:
    """A text made line by line, and beside it what its lines tell, by the program's own objects and functions."""

    def __init__(self, numbers):
        self.numbers = numbers
        self.rows = []
        self.expected = []
        self.free_names = mixed(numbers, (
            "a b c d x z bread tea abcdefghijkl zzzzzzzzzzzz kinds offs o ofs sharing lines takes bests number price "
            "fault total lon rul spills unlikely ahea onc wares un der name nopieces noaccount held nothing").split())
        self.kind_names, self.parents = [], []
        self.voucher_names, self.vouchers = [], []
        self.rules, self.back = [], "again"
        self.baskets, self.hands = [], []
        self.account = None
        # Mostly so few that looks can be asked.
        self.most_vouchers = numbers.one_of([3, 4, 8])

    def text(self):
        return "\n".join(self.rows)

    def write(self, *words):
        if self.numbers.below(8) == 0:
            self.rows.append(" " * self.numbers.below(3))
        row = " " * (self.numbers.below(5) // 4)
        for word in words:
            row += str(word) + " " * (1 + self.numbers.below(8) // 7)
        self.rows.append(row if self.numbers.below(4) == 0 else row.rstrip(" "))

    def ask(self, told, *words):
        self.write(*words)
        self.expected.append((len(self.rows), words[0], told))

    def till(self):
        return Till(self.parents, self.vouchers, self.rules, self.back)

    def hand(self):
        return [self.hands[-1].get(number, 0) for number in range(len(self.vouchers))]

    def names(self, order):
        return [self.voucher_names[number] for number in order]

    def kind(self):
        if len(self.parents) == 20:
            return
        name = self.free_names.pop()
        parent = self.numbers.below(2 * len(self.parents) + 1)
        if parent < len(self.parents):
            self.write("kind", name, "under", self.kind_names[parent])
        else:
            self.write("kind", name)
            parent = None
        self.kind_names.append(name)
        self.parents.append(parent)

    def voucher(self):
        if len(self.vouchers) == self.most_vouchers:
            return
        voucher = made_voucher(self.numbers)
        marks = voucher.marks
        marks.kind = self.numbers.one_of([None, None, self.numbers.below(len(self.parents))])
        marks.needs = self.numbers.one_of([0, 0, 0, 60, 300])
        marks.member = marks.member and self.numbers.below(2) == 0
        name = self.free_names.pop()
        self.write("voucher", name, *words_of_voucher(voucher, self.kind_names, self.numbers))
        self.voucher_names.append(name)
        self.vouchers.append(voucher)

    def rule(self):
        if len(self.rules) == 20:
            return
        word = self.numbers.one_of(["only", "never", "ahead", "behind"])
        one, other = self.numbers.below(len(self.vouchers)), self.numbers.below(len(self.vouchers))
        self.write("rule", self.voucher_names[one], word, self.voucher_names[other])
        self.rules.append(("ahead", other, one) if word == "behind" else (word, one, other))

    def change_back(self):
        self.back = self.numbers.one_of(["again", "shares"])
        self.write("back", self.back)

    def basket(self):
        if len(self.baskets) == 20:
            return
        carriage, member = self.numbers.one_of([0, 5, 490]), self.numbers.below(2) == 0
        self.write("basket", carriage, *["member"] * member)
        self.baskets.append(Basket([], carriage, member))
        self.hands.append({})

    def ware(self):
        basket = self.baskets[-1]
        if len(basket.lines) == 12 or sum(line.many for line in basket.lines) > 40:
            return
        line = Line(self.numbers.below(len(self.parents)), self.numbers.one_of([0, 10, 97, 250]),
                    self.numbers.one_of([0, 1, 1, 2, 3, 5, 20]), self.numbers.one_of([None, None, 0, 88]))
        special = [] if line.special is None else ["special", line.special]
        self.write("ware", self.kind_names[line.kind], line.price, line.many, *special)
        self.baskets[-1] = Basket(basket.lines + [line], basket.carriage, basket.member)

    def hold(self):
        voucher, many = self.numbers.below(len(self.vouchers)), self.numbers.one_of([0, 1, 1, 1, 2, 2, 3, 5])
        self.write("hold", self.voucher_names[voucher], many)
        self.hands[-1][voucher] = many

    def some_order(self):
        """One that is made of those that are held, now and then with any voucher in between."""
        held = [number for number, many in enumerate(self.hand()) for place in range(many)]
        order = mixed(self.numbers, held)[:self.numbers.below(5)]
        if self.numbers.below(4) == 0:
            order.append(self.numbers.below(len(self.vouchers)))
        return order

    def use(self):
        order = self.some_order()
        handed = (self.till(), self.baskets[-1], self.hand(), order)
        due = fault(*handed)
        told = ("price", priced(*handed).total) if due is None else ("fault",) + due
        self.ask(told, "use", *self.names(order))

    def best(self):
        if sum(self.hand()) <= 5:
            order, total, paper = best(self.till(), self.baskets[-1], self.hand())
            self.ask((self.names(order), total), "best")

    def buy(self):
        order = self.some_order()
        handed = (self.till(), self.baskets[-1], self.hand(), order)
        due = fault(*handed)
        self.account = Account(*handed) if due is None else None
        self.ask(("price", self.account.paid) if due is None else ("fault",) + due, "buy", *self.names(order))

    def take(self):
        line, many = self.numbers.below(4), self.numbers.one_of([0, 1, 1, 1, 1, 1, 2, 3, 10 ** 12])
        if self.account is None:
            self.ask("NoAccount", "take", line, many)
            # Mostly a buy next, or hardly a thing would ever be taken back.
            return self.buy() if self.numbers.below(4) > 0 else None
        try:
            back = self.account.take_back(line, many)
        except NoPieces:
            return self.ask("NoPieces", "take", line, many)
        told = (back, self.account.paid, self.account.owed, self.names(self.account.order))
        return self.ask(told, "take", line, many)

    def look(self):
        if len(self.vouchers) > 4:
            return
        voucher = self.numbers.below(len(self.vouchers))
        told = first_use(self.till(), voucher, self.baskets)
        self.ask(told and (told[0], self.names(told[1])), "never", self.voucher_names[voucher])
        told = first_unlike(self.till(), self.baskets)
        self.ask(told and (told[0], self.names(told[1]), self.names(told[2])), "unlike")
        told = first_spill(self.till(), self.baskets)
        self.ask(told and (told[0], self.names(told[1]), told[2]), "spill")

    def goods(self):
        self.basket()
        for place in range(1 + self.numbers.below(4)):
            self.ware()
        for place in range(1 + self.numbers.below(5)):
            self.hold()


def made_text(numbers, many):
    """A MadeText with that many things told or asked behind what it begins with."""
    made = MadeText(numbers)
    made.kind()
    made.voucher()
    made.look()
    made.goods()
    for place in range(many):
        [
            made.kind, made.voucher, made.voucher, made.rule, made.change_back, made.goods, made.ware,
            made.hold, made.hold, made.hold, made.use, made.use, made.best, made.buy, made.buy, made.take, made.take,
            made.take, made.take, made.look,
        ][numbers.below(20)]()
    return made

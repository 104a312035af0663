"""What several tests need: looks at all that objects hold, and many made-up cases."""

from voucherstack.cutting import after, reach
from voucherstack.rules import fault
from voucherstack.till import Till
from voucherstack.vouchers import Bundle, Carriage, Cheapest, Marks, Off, Share
from voucherstack.wares import Basket, Line, Standing

# Two trees: 0 over 1 and 5, 1 over 2; and 3 over 4.
PARENTS = [None, 0, 1, None, 3, 0]


def some_basket():
    """Prices 100, 100 of kind 2, 50 of kind 4, 30, 30, 30 of kind 1, and a line of no piece."""
    return Basket([Line(2, 100, 2), Line(4, 50, 1), Line(1, 30, 3), Line(0, 70, 0)], 490)


def seen(thing):
    """All that a thing holds, as it is now, with the kind of each value: unlike after any change."""
    name = type(thing).__name__
    if isinstance(thing, (list, tuple)):
        return (name, [seen(each) for each in thing])
    if hasattr(thing, "__dict__"):
        return (name, {field: seen(value) for field, value in vars(thing).items()})
    return (name, thing)


def lists_in(thing):
    """Each list that a thing holds or is, as often as it stands there."""
    if isinstance(thing, (list, tuple)):
        inner = [one for each in thing for one in lists_in(each)]
        return inner + [thing] if isinstance(thing, list) else inner
    if hasattr(thing, "__dict__"):
        return [one for value in vars(thing).values() for one in lists_in(value)]
    return []


def share_no_list(*things):
    numbers = [id(one) for thing in things for one in lists_in(thing)]
    return len(numbers) == len(set(numbers))


def standing_fields(standing):
    return (standing.owners, standing.prices, standing.carriage, standing.marked)


def behind(vouchers, parents, basket):
    """The standing that these vouchers leave, used one behind the other."""
    standing = Standing(basket)
    for voucher in vouchers:
        standing = after(voucher, parents, basket, standing)
    return standing


def standing_by(till, basket, order):
    """The standing that an order of a till's vouchers leaves, whether it is let by or not."""
    return behind([till.vouchers[number] for number in order], till.parents, basket)


def can_be_gone_on_with(till, basket, hand, order):
    due = fault(till, basket, hand, order)
    return due is None or due[1] == "only"


def least_by_words(till, basket, hand, order):
    standing = standing_by(till, basket, order)
    least = standing.whole()
    for number, voucher in enumerate(till.vouchers):
        come = hand[number] - len([each for each in order if each == number])
        if voucher.marks.once:
            come = min(come, 1) if number not in order else 0
        least = least - reach(voucher, till.parents, basket, standing) * come
    return least if least > 0 else 0


def ahead_in_lists(one, other):
    for left, right in zip(one, other):
        if left != right:
            return left < right
    return len(one) < len(other)


class Numbers:
    """Whole numbers that look mixed and are the same in each run."""

    def __init__(self, start):
        self.state = start

    def below(self, bound):
        self.state = (self.state * 6364136223846793005 + 1442695040888963407) % 2 ** 64
        return (self.state >> 33) % bound

    def one_of(self, things):
        return things[self.below(len(things))]


def made_marks(numbers):
    return Marks(
        kind=numbers.one_of([None, None, 0, 1, 2, 3, 5]),
        needs=numbers.one_of([0, 0, 0, 50, 400]),
        most=numbers.one_of([None, None, 0, 1, 7, 60, 500]),
        member=numbers.below(5) == 0,
        once=numbers.below(4) == 0,
        lone=numbers.below(3) == 0,
    )


def made_voucher(numbers):
    marks = made_marks(numbers)
    return [
        Off(numbers.one_of([0, 1, 13, 100, 100000]), marks),
        Share(numbers.one_of([1, 95, 333, 999, 1000]), False, marks),
        Share(numbers.one_of([1, 95, 333, 999, 1000]), True, marks),
        Cheapest(2 + numbers.below(4), marks),
        Bundle(2 + numbers.below(4), numbers.one_of([0, 20, 90, 200]), marks),
        Carriage(marks),
    ][numbers.below(6)]


def made_basket(numbers):
    lines = []
    for place in range(numbers.below(6)):
        special = numbers.one_of([None, None, 0, 11])
        lines.append(Line(numbers.below(len(PARENTS)), numbers.one_of([0, 1, 10, 33, 97]), numbers.below(5), special))
    return Basket(lines, numbers.one_of([0, 5, 490]), numbers.below(2) == 0)


def made_till(numbers, many, back="again"):
    """Most marks that hinder are taken off again, or hardly an order would be let by."""
    vouchers = [made_voucher(numbers) for place in range(many)]
    for voucher in vouchers:
        marks = voucher.marks
        marks.kind = marks.kind if numbers.below(3) == 0 else None
        marks.needs = marks.needs if numbers.below(2) == 0 else 0
        marks.most = marks.most if numbers.below(3) == 0 else None
        marks.member = marks.member and numbers.below(3) == 0
    rules = []
    for place in range(numbers.below(4)):
        rules.append((numbers.one_of(["only", "never", "ahead"]), numbers.below(many), numbers.below(many)))
    return Till(PARENTS, vouchers, rules, back)


def made_hand(numbers, many, held):
    """As many vouchers held in all as told, here one and there one."""
    hand = [0] * many
    for place in range(held):
        hand[numbers.below(many)] += 1
    return hand


def made_searches(many):
    """Tuples (till, basket, hand), of at most 4 held in all."""
    numbers = Numbers(many)
    cases = []
    for number in range(many):
        kinds = 1 + numbers.below(4)
        basket = made_basket(numbers)
        if numbers.below(8) > 0:
            basket = Basket([Line(2, 40, 2), Line(3, 25, 1, 20)] + basket.lines, basket.carriage, basket.member)
        cases.append((made_till(numbers, kinds), basket, made_hand(numbers, kinds, numbers.below(5))))
    return cases


def made_cases(many):
    """Tuples (vouchers, basket): some vouchers to be used one behind the other."""
    numbers = Numbers(many)
    cases = []
    for number in range(many):
        vouchers = [made_voucher(numbers) for place in range(1 + numbers.below(4))]
        cases.append((vouchers, made_basket(numbers)))
    return cases

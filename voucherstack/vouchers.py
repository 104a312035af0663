"""The sorts of voucher, and the marks that each of them bears."""


class Marks:
    def __init__(self, kind=None, needs=0, most=None, member=False, once=False, lone=False):
        self.kind = kind
        self.needs = needs
        self.most = most
        self.member = member
        self.once = once
        self.lone = lone


class Voucher:
    def __init__(self, marks=None):
        # Made here and not as the default value, so that each voucher has marks of its own.
        self.marks = Marks() if marks is None else marks


class Off(Voucher):
    def __init__(self, amount, marks=None):
        Voucher.__init__(self, marks)
        self.amount = amount


class Share(Voucher):
    def __init__(self, share, by_line=False, marks=None):
        Voucher.__init__(self, marks)
        self.share = share
        self.by_line = by_line


class Cheapest(Voucher):
    def __init__(self, many, marks=None):
        Voucher.__init__(self, marks)
        self.many = many


class Bundle(Voucher):
    def __init__(self, many, price, marks=None):
        Voucher.__init__(self, marks)
        self.many = many
        self.price = price


class Carriage(Voucher):
    def __init__(self, marks=None):
        Voucher.__init__(self, marks)

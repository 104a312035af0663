"""A till: its kinds, its vouchers, its rules, and how wares are taken back."""


class Till:
    def __init__(self, parents, vouchers, rules, back="again"):
        # Copies, so that a later change to a handed list does not reach the till.
        self.parents = list(parents)
        self.vouchers = list(vouchers)
        self.rules = list(rules)
        self.back = back

"""Lines of wares, baskets of them, and how a basket stands."""


class Line:
    def __init__(self, kind, price, many, special=None):
        self.kind = kind
        self.price = price
        self.many = many
        self.special = special


class Basket:
    def __init__(self, lines, carriage=0, member=False):
        # A copy, so that a later change to the handed list does not reach the basket.
        self.lines = list(lines)
        self.carriage = carriage
        self.member = member


def price_of_piece(line, member):
    # A special price of 0 is a price: None alone says that there is none.
    if member and line.special is not None:
        return line.special
    return line.price


class Standing:
    def __init__(self, basket):
        self.owners = []
        self.prices = []
        self.carriage = basket.carriage
        self.marked = []
        for number, line in enumerate(basket.lines):
            price = price_of_piece(line, basket.member)
            self.owners.extend([number] * line.many)
            self.prices.extend([price] * line.many)
            self.marked.append(False)

    def whole(self):
        return sum(self.prices) + self.carriage

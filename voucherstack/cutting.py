"""What a voucher is about in a standing, what hinders it there, and what it cuts off."""

from voucherstack.coins import dealt
from voucherstack.kinds import under
from voucherstack.vouchers import Bundle, Carriage, Cheapest, Off, Share
from voucherstack.wares import Standing


def about(voucher, parents, basket, standing):
    fitting = [fits(voucher.marks, parents, line.kind, marked) for line, marked in zip(basket.lines, standing.marked)]
    return [piece for piece, owner in enumerate(standing.owners) if fitting[owner]]


def fits(marks, parents, kind, marked):
    if marks.lone and marked:
        return False
    # The first kind is 0, so None alone stands for all kinds.
    return marks.kind is None or under(parents, kind, marks.kind)


def hindrance(voucher, parents, basket, standing):
    marks = voucher.marks
    if marks.member and not basket.member:
        return "member"
    pieces = about(voucher, parents, basket, standing)
    # Pieces are counted here, not coins: a piece of price 0 is one.
    if len(pieces) == 0:
        return "nothing"
    if sum_of_prices(standing, pieces) < marks.needs:
        return "needs"
    return None


def cuts(voucher, parents, basket, standing):
    return (cuts_of_pieces(voucher, parents, basket, standing), cut_of_carriage(voucher, standing))


def after(voucher, parents, basket, standing):
    piece_cuts = cuts_of_pieces(voucher, parents, basket, standing)
    left = Standing(basket)
    left.owners = list(standing.owners)
    left.prices = [price - cut for price, cut in zip(standing.prices, piece_cuts)]
    left.carriage = standing.carriage - cut_of_carriage(voucher, standing)
    left.marked = marked_behind(voucher, standing, piece_cuts)
    return left


def reach(voucher, parents, basket, standing):
    pieces = about(voucher, parents, basket, standing)
    return at_most(voucher.marks.most, reach_without_most(voucher, standing, sum_of_prices(standing, pieces)))


def reach_without_most(voucher, standing, together):
    if isinstance(voucher, Off):
        return min(voucher.amount, together)
    if isinstance(voucher, Share):
        # Enough by line, too: the sum of what is rounded down is never above the sum rounded down.
        return together * voucher.share // 1000
    if isinstance(voucher, Cheapest):
        # The last piece of a group is its cheapest, so its price is at most that part of the group's.
        return together // voucher.many
    if isinstance(voucher, Bundle):
        return together
    return standing.carriage


def cuts_of_pieces(voucher, parents, basket, standing):
    pieces = about(voucher, parents, basket, standing)
    wanted = [0 for price in standing.prices]
    for cut, group in wanted_cuts(voucher, standing, pieces):
        for piece, part in zip(group, dealt(cut, prices_of(standing, group))):
            wanted[piece] = part
    most = voucher.marks.most
    if most is not None and sum(wanted) > most:
        return dealt(most, wanted)
    return wanted


def cut_of_carriage(voucher, standing):
    if isinstance(voucher, Carriage):
        return at_most(voucher.marks.most, standing.carriage)
    return 0


def wanted_cuts(voucher, standing, pieces):
    """Tuples (cut, group): each cut is to be dealt over its group by the prices, in the group's order."""
    if isinstance(voucher, Off):
        return [(min(voucher.amount, sum_of_prices(standing, pieces)), pieces)]
    if isinstance(voucher, Share):
        groups = parted_by_line(standing, pieces) if voucher.by_line else [pieces]
        return [(sum_of_prices(standing, group) * voucher.share // 1000, group) for group in groups]
    if isinstance(voucher, Cheapest):
        lasts = [group[-1] for group in falling_groups(standing, pieces, voucher.many)]
        return [(standing.prices[last], [last]) for last in lasts]
    if isinstance(voucher, Bundle):
        groups = falling_groups(standing, pieces, voucher.many)
        return [(max(sum_of_prices(standing, group) - voucher.price, 0), group) for group in groups]
    return []


def parted_by_line(standing, pieces):
    by_line = {}
    for piece in pieces:
        by_line.setdefault(standing.owners[piece], []).append(piece)
    return list(by_line.values())


def falling_groups(standing, pieces, many):
    # The lesser piece stands first among alike ones, as the pieces rise and sorting keeps their order.
    falling = sorted(pieces, key=lambda piece: -standing.prices[piece])
    return [falling[start:start + many] for start in range(0, len(falling) - many + 1, many)]


def marked_behind(voucher, standing, piece_cuts):
    marked = list(standing.marked)
    if voucher.marks.lone:
        for owner, cut in zip(standing.owners, piece_cuts):
            if cut > 0:
                marked[owner] = True
    return marked


def prices_of(standing, pieces):
    return [standing.prices[piece] for piece in pieces]


def sum_of_prices(standing, pieces):
    return sum(prices_of(standing, pieces))


def at_most(most, number):
    # A most of 0 is a bound: None alone says that there is none.
    if most is None:
        return number
    return min(most, number)

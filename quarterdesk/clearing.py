"""The calls by which orders are done: fill, settle and take.

Each is handed a copy of the house, which is thrown away where the call is refused.
"""

from quarterdesk.records import STEP, LIVE, BLOCK, family_of, price_is_outside, add_owing, some_firm_owes_too_much
from quarterdesk.holding import owed, gains_at, loses_at, own_due
from quarterdesk.refusals import NO_ORDER, PRICE_OUTSIDE, UNFIT, OWES_TOO_MUCH


def firm_of(house, order):
    return house.desks[order.desk].firm


def fill_order(house, numbers, rows):
    amount = numbers[1]
    price = numbers[2]
    if numbers[0] not in house.orders:
        return [NO_ORDER]
    if price_is_outside(house, price):
        return [PRICE_OUTSIDE]
    order = house.orders[numbers[0]]
    if order.kind != LIVE or amount > order.amount or loses_at(order, price):
        return [UNFIT]
    added = owed(order.side, price, amount)
    add_owing(house, firm_of(house, order), added)
    if some_firm_owes_too_much(house):
        return [OWES_TOO_MUCH]
    order.amount = order.amount - amount
    if order.amount == 0:
        house.orders.pop(numbers[0])
    return [0, added]


def is_settled(house, order, zone, quarter):
    return order.kind == STEP and order.quarter == quarter and house.desks[order.desk].zone == zone


def share_fits(step, price, share):
    if gains_at(step, price):
        return share == step.amount
    if loses_at(step, price):
        return share == 0
    return share <= step.amount


def shares_fit(steps, price, shares):
    if len(steps) != len(shares):
        return False
    return all([share_fits(step, price, share) for step, share in zip(steps, shares)])


# Numbers are given in the order of entry, so sorting them restores that order.
def settle_quarter(house, numbers, rows):
    price = numbers[2]
    shares = rows[0]
    if price_is_outside(house, price):
        return [PRICE_OUTSIDE]
    going = [number for number in sorted(house.orders)
             if is_settled(house, house.orders[number], numbers[0], numbers[1])]
    steps = [house.orders[number] for number in going]
    if not shares_fit(steps, price, shares):
        return [UNFIT]
    added = [owed(step.side, price, share) for step, share in zip(steps, shares)]
    for step, money in zip(steps, added):
        add_owing(house, firm_of(house, step), money)
    if some_firm_owes_too_much(house):
        return [OWES_TOO_MUCH]
    for number in going:
        house.orders.pop(number)
    return [0, len(going)] + added


def owed_at_prices(block, prices, low):
    total = 0
    for place, amount in enumerate(block.amounts):
        quarter = block.quarter + place
        price = prices[quarter] if quarter < len(prices) else low
        total = total + owed(block.side, price, amount)
    return total


def is_rising(numbers):
    return all([first < second for first, second in zip(numbers, numbers[1:])])


def is_whole_set(orders, root, taken):
    if orders[root].kind != BLOCK or orders[root].parent != 0:
        return False
    if not is_rising(taken) or root not in taken:
        return False
    family = family_of(orders, root)
    return all([number in family and (number == root or orders[number].parent in taken) for number in taken])


# A block is always numbered behind its parent, so going backwards each block is ready before its parent.
def nobody_loses(orders, root, dues):
    surplus = dict([(number, own_due(orders[number]) - due) for number, due in dues.items()])
    for number in sorted(dues, reverse=True):
        if number != root:
            parent = orders[number].parent
            surplus[parent] = surplus[parent] + surplus[number]
    return all([money >= 0 for money in surplus.values()])


def families_going(orders, root):
    roots = [root]
    if orders[root].group != 0:
        roots = [number for number in sorted(orders) if is_rival(orders[number], orders[root])]
    going = []
    for number in roots:
        going.extend(family_of(orders, number))
    return going


# Only roots have groups, so that this needn't ask whether the order is one.
def is_rival(order, root):
    return order.desk == root.desk and order.group == root.group


def take_family(house, numbers, rows):
    root = numbers[0]
    taken = rows[0]
    prices = rows[1]
    if root not in house.orders:
        return [NO_ORDER]
    if any([price_is_outside(house, price) for price in prices]):
        return [PRICE_OUTSIDE]
    if not is_whole_set(house.orders, root, taken):
        return [UNFIT]
    dues = dict([(number, owed_at_prices(house.orders[number], prices, house.low)) for number in taken])
    if not nobody_loses(house.orders, root, dues):
        return [UNFIT]
    added = sum(dues.values())
    add_owing(house, firm_of(house, house.orders[root]), added)
    if some_firm_owes_too_much(house):
        return [OWES_TOO_MUCH]
    going = families_going(house.orders, root)
    for number in going:
        house.orders.pop(number)
    return [0, len(going), added]


CLEARING_CALLS = {
    13: fill_order,
    14: settle_quarter,
    15: take_family,
}

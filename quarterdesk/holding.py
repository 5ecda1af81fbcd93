"""What is held for a desk's orders."""

from quarterdesk.records import BUYING, STEP, LIVE, BLOCK, orders_of


def owed(side, price, amount):
    return price * amount if side == BUYING else -(price * amount)


def gains_at(order, price):
    return price < order.price if order.side == BUYING else price > order.price


def loses_at(order, price):
    return price > order.price if order.side == BUYING else price < order.price


def own_due(order):
    return owed(order.side, order.price, order.amount)


def step_owes(step, price):
    if loses_at(step, price):
        return 0
    due = owed(step.side, price, step.amount)
    return due if gains_at(step, price) else max(due, 0)


def net_at(steps, price):
    return sum([step_owes(step, price) for step in steps])


# Between two neighbouring prices of steps the net runs straight, so that its greatest value, and the
# least price at which it has that value, stand at an end of such a stretch: no other price need be tried.
def telling_prices(steps, low, high):
    prices = [low, high]
    for step in steps:
        prices.extend([step.price - 1, step.price, step.price + 1])
    return sorted(set([price for price in prices if low <= price <= high]))


# The worst, and the least price at which the net is just that.
def worst_of(steps, low, high):
    worst = net_at(steps, low)
    worst_price = low
    for price in telling_prices(steps, low, high):
        net = net_at(steps, price)
        if net > worst:
            worst = net
            worst_price = price
    return (worst, worst_price)


def held_for_steps(orders, low, high):
    quarters = {}
    for order in orders:
        if order.kind == STEP:
            quarters.setdefault(order.quarter, []).append(order)
    return sum([worst_of(steps, low, high)[0] for steps in quarters.values()])


def held_for_lives(orders):
    return sum([max(own_due(order), 0) for order in orders if order.kind == LIVE])


# A block is always numbered behind its parent, so going backwards each block is ready before its parent.
def greatest_sums(blocks):
    sums = dict([(number, own_due(block)) for number, block in blocks.items()])
    for number in sorted(blocks, reverse=True):
        parent = blocks[number].parent
        if parent != 0:
            sums[parent] = sums[parent] + max(sums[number], 0)
    return sums


def held_for_blocks(blocks):
    sums = greatest_sums(blocks)
    alone = 0
    groups = {}
    for number, block in blocks.items():
        if block.parent == 0:
            held = max(sums[number], 0)
            if block.group == 0:
                alone = alone + held
            else:
                groups[block.group] = max(groups.get(block.group, 0), held)
    return alone + sum(groups.values())


# For steps, for live orders, for blocks.
def holds_of(house, desk):
    numbers = orders_of(house, desk)
    orders = [house.orders[number] for number in numbers]
    blocks = dict([(number, house.orders[number]) for number in numbers if house.orders[number].kind == BLOCK])
    return [held_for_steps(orders, house.low, house.high), held_for_lives(orders), held_for_blocks(blocks)]

"""The calls that enter orders, cut them and take them back.

Each is handed a copy of the house, which is thrown away where the call is refused.
"""

from quarterdesk.records import STEP, LIVE, BLOCK, MOST_DEPTH, Order
from quarterdesk.records import depth_of, family_of, is_stopped, price_is_outside
from quarterdesk.refusals import NO_DESK, NO_ORDER, TOO_MANY, STOPPED, PRICE_OUTSIDE, UNFIT

MOST_ORDERS = 64
MOST_NUMBERED = 1000000000


# What refuses orders of every kind at a desk that is there; an accepted one answers its number.
def enter(house, order):
    if is_stopped(house, house.desks[order.desk].firm):
        return [STOPPED]
    if price_is_outside(house, order.price):
        return [PRICE_OUTSIDE]
    if len(house.orders) == MOST_ORDERS or house.orders_numbered == MOST_NUMBERED:
        return [TOO_MANY]
    house.orders_numbered = house.orders_numbered + 1
    house.orders[house.orders_numbered] = order
    return [0, house.orders_numbered]


def enter_step(house, numbers, rows):
    if numbers[0] not in house.desks:
        return [NO_DESK]
    order = Order(STEP, numbers[0], numbers[2], numbers[3], numbers[4])
    order.quarter = numbers[1]
    return enter(house, order)


def enter_live(house, numbers, rows):
    if numbers[0] not in house.desks:
        return [NO_DESK]
    return enter(house, Order(LIVE, numbers[0], numbers[1], numbers[2], numbers[3]))


def may_hang_on(house, desk, parent, group):
    order = house.orders[parent]
    if order.kind != BLOCK or order.desk != desk:
        return False
    return depth_of(house.orders, parent) < MOST_DEPTH and group == 0


def enter_block(house, numbers, rows):
    desk = numbers[0]
    parent = numbers[3]
    group = numbers[4]
    if desk not in house.desks:
        return [NO_DESK]
    if parent != 0 and parent not in house.orders:
        return [NO_ORDER]
    if parent != 0 and not may_hang_on(house, desk, parent, group):
        return [UNFIT]
    order = Order(BLOCK, desk, numbers[1], numbers[2], sum(rows[0]))
    order.quarter = numbers[5]
    order.parent = parent
    order.group = group
    order.amounts = rows[0]
    return enter(house, order)


# Steps and live orders have no parents: their family is the order alone.
def cancel_order(house, numbers, rows):
    if numbers[0] not in house.orders:
        return [NO_ORDER]
    going = family_of(house.orders, numbers[0])
    for number in going:
        house.orders.pop(number)
    return [0, len(going)]


def cut_order(house, numbers, rows):
    if numbers[0] not in house.orders:
        return [NO_ORDER]
    order = house.orders[numbers[0]]
    if order.kind == BLOCK or order.amount <= numbers[1]:
        return [UNFIT]
    order.amount = numbers[1]
    return [0]


ORDER_CALLS = {
    8: enter_step,
    9: enter_live,
    10: enter_block,
    11: cancel_order,
    12: cut_order,
}

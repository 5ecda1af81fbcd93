"""The calls that ask, and change nothing."""

from quarterdesk.records import STEP, Order, line_of_parents, depth_of, orders_of, steps_of, price_is_outside
from quarterdesk.holding import step_owes, net_at, telling_prices, worst_of, holds_of
from quarterdesk.needs import own_needs, all_needs, room_to_grow
from quarterdesk.refusals import NO_FIRM, NO_DESK, NO_ORDER, PRICE_OUTSIDE

MOST_AMOUNT = 1000000000


def ask_need(house, numbers):
    number = numbers[0]
    if number not in house.firms:
        return [NO_FIRM]
    needs = all_needs(house)
    rooms = [house.firms[other].line - needs[other] for other in line_of_parents(house.firms, number)]
    return [0, own_needs(house)[number], needs[number], house.firms[number].line, min(rooms)]


def ask_firm(house, numbers):
    if numbers[0] not in house.firms:
        return [NO_FIRM]
    firm = house.firms[numbers[0]]
    return [0, firm.parent, firm.fenced, firm.owes, firm.stopped, depth_of(house.firms, numbers[0])]


# Ways from the top are compared number by number, and a way comes before those that go on from it:
# that is just the order in which the tree is told.
def way_from_top(firms, number):
    return list(reversed(line_of_parents(firms, number)))


def ask_tree(house, numbers):
    told = [0, len(house.firms)]
    for number in sorted(house.firms, key=lambda other: way_from_top(house.firms, other)):
        told.extend([number, depth_of(house.firms, number)])
    return told


def ask_short(house, numbers):
    needs = all_needs(house)
    short = [number for number in sorted(house.firms) if needs[number] > house.firms[number].line]
    told = [0, len(short)]
    for number in short:
        told.extend([number, needs[number] - house.firms[number].line])
    return told


def ask_worst(house, numbers):
    if numbers[0] not in house.desks:
        return [NO_DESK]
    worst = worst_of(steps_of(house, numbers[0], numbers[1]), house.low, house.high)
    return [0, worst[0], worst[1]]


def ask_at(house, numbers):
    if numbers[0] not in house.desks:
        return [NO_DESK]
    if price_is_outside(house, numbers[2]):
        return [PRICE_OUTSIDE]
    return [0, net_at(steps_of(house, numbers[0], numbers[1]), numbers[2])]


# At each price the net grows by the same money with every further unit of the amount. Where that's
# above 0 a division tells how many units fit; where it isn't, the net stays at most the old worst.
def most_units(steps, unit, low, high, limit):
    most = MOST_AMOUNT
    for price in telling_prices(steps + [unit], low, high):
        growth = step_owes(unit, price)
        if growth > 0:
            most = min(most, (limit - net_at(steps, price)) // growth)
    return most


def ask_most(house, numbers):
    desk = numbers[0]
    if desk not in house.desks:
        return [NO_DESK]
    if price_is_outside(house, numbers[3]):
        return [PRICE_OUTSIDE]
    steps = steps_of(house, desk, numbers[1])
    unit = Order(STEP, desk, numbers[2], numbers[3], 1)
    limit = worst_of(steps, house.low, house.high)[0] + room_to_grow(house, house.desks[desk].firm)
    return [0, most_units(steps, unit, house.low, house.high, limit)]


def ask_hold(house, numbers):
    if numbers[0] not in house.desks:
        return [NO_DESK]
    return [0] + holds_of(house, numbers[0])


def ask_order(house, numbers):
    if numbers[0] not in house.orders:
        return [NO_ORDER]
    order = house.orders[numbers[0]]
    told = [0, order.kind, order.desk, order.side, order.price, order.amount]
    return told + [order.quarter, order.parent, order.group]


def ask_orders(house, numbers):
    if numbers[0] not in house.desks:
        return [NO_DESK]
    orders = orders_of(house, numbers[0])
    return [0, len(orders)] + orders


ASKING_CALLS = {
    21: ask_need,
    22: ask_firm,
    23: ask_tree,
    24: ask_short,
    25: ask_worst,
    26: ask_at,
    27: ask_most,
    28: ask_hold,
    29: ask_order,
    30: ask_orders,
}

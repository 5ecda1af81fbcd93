"""What the house holds, and how firms and blocks hang on their parents."""

BUYING = 0

STEP = 1
LIVE = 2
BLOCK = 3

MOST_DEPTH = 8
MOST_OWED = 1000000000000000000


class Firm:
    def __init__(self, parent, line, fenced):
        self.parent = parent
        self.line = line
        self.fenced = fenced
        self.owes = 0
        self.stopped = 0


class Desk:
    def __init__(self, firm, zone):
        self.firm = firm
        self.zone = zone


class Order:
    def __init__(self, kind, desk, side, price, amount):
        self.kind = kind
        self.desk = desk
        self.side = side
        self.price = price
        self.amount = amount
        self.quarter = 0
        self.parent = 0
        self.group = 0
        self.amounts = []


class House:
    def __init__(self):
        self.opened = False
        self.low = 0
        self.high = 0
        self.counts = 0
        self.firms = {}
        self.desks = {}
        self.orders = {}
        self.firms_founded = 0
        self.desks_made = 0
        self.orders_numbered = 0


def copy_firm(firm):
    copied = Firm(firm.parent, firm.line, firm.fenced)
    copied.owes = firm.owes
    copied.stopped = firm.stopped
    return copied


# The row of amounts may be shared: no call changes it.
def copy_order(order):
    copied = Order(order.kind, order.desk, order.side, order.price, order.amount)
    copied.quarter = order.quarter
    copied.parent = order.parent
    copied.group = order.group
    copied.amounts = order.amounts
    return copied


def copy_house(house):
    copied = House()
    copied.opened = house.opened
    copied.low = house.low
    copied.high = house.high
    copied.counts = house.counts
    copied.firms = dict([(number, copy_firm(firm)) for number, firm in house.firms.items()])
    copied.desks = dict([(number, Desk(desk.firm, desk.zone)) for number, desk in house.desks.items()])
    copied.orders = dict([(number, copy_order(order)) for number, order in house.orders.items()])
    copied.firms_founded = house.firms_founded
    copied.desks_made = house.desks_made
    copied.orders_numbered = house.orders_numbered
    return copied


# From the one asked for up to the topmost; of 0, which stands for none, nothing.
def line_of_parents(records, number):
    numbers = []
    while number != 0:
        numbers.append(number)
        number = records[number].parent
    return numbers


def depth_of(records, number):
    return len(line_of_parents(records, number))


def family_of(records, number):
    return [other for other in sorted(records) if number in line_of_parents(records, other)]


def orders_of(house, desk):
    return [number for number in sorted(house.orders) if house.orders[number].desk == desk]


def steps_of(house, desk, quarter):
    orders = [house.orders[number] for number in orders_of(house, desk)]
    return [order for order in orders if order.kind == STEP and order.quarter == quarter]


def is_stopped(house, firm):
    return any([house.firms[number].stopped == 1 for number in line_of_parents(house.firms, firm)])


def price_is_outside(house, price):
    return price < house.low or price > house.high


def add_owing(house, firm, money):
    debtor = house.firms[firm]
    debtor.owes = debtor.owes + money


def some_firm_owes_too_much(house):
    return any([abs(firm.owes) > MOST_OWED for firm in house.firms.values()])

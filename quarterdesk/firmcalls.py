"""The calls that change the house, its firms and its desks.

Each is handed a copy of the house, which is thrown away where the call is refused.
"""

from quarterdesk.records import MOST_DEPTH, Firm, Desk, line_of_parents, depth_of, family_of, orders_of
from quarterdesk.records import is_stopped, add_owing, some_firm_owes_too_much
from quarterdesk.refusals import OPENED_ALREADY, HIGH_BELOW_LOW, NO_FIRM, NO_DESK, TOO_MANY, WRONG_PLACE_IN_TREE
from quarterdesk.refusals import STOPPED, STILL_IN_USE, OWES_TOO_MUCH

MOST_FIRMS = 64
MOST_DESKS = 64


def open_house(house, numbers):
    if house.opened:
        return [OPENED_ALREADY]
    if numbers[1] < numbers[0]:
        return [HIGH_BELOW_LOW]
    house.opened = True
    house.low = numbers[0]
    house.high = numbers[1]
    house.counts = numbers[2]
    return [0]


def may_be_parent(house, firm):
    return firm == 0 or firm in house.firms


def found_firm(house, numbers):
    parent = numbers[0]
    if not may_be_parent(house, parent):
        return [NO_FIRM]
    if house.firms_founded == MOST_FIRMS:
        return [TOO_MANY]
    if depth_of(house.firms, parent) == MOST_DEPTH:
        return [WRONG_PLACE_IN_TREE]
    house.firms_founded = house.firms_founded + 1
    house.firms[house.firms_founded] = Firm(parent, numbers[1], numbers[2])
    return [0, house.firms_founded]


def set_line(house, numbers):
    if numbers[0] not in house.firms:
        return [NO_FIRM]
    firm = house.firms[numbers[0]]
    firm.line = numbers[1]
    return [0]


def set_fence(house, numbers):
    if numbers[0] not in house.firms:
        return [NO_FIRM]
    firm = house.firms[numbers[0]]
    firm.fenced = numbers[1]
    return [0]


def depth_behind_move(firms, number, parent):
    deepest = max([depth_of(firms, other) for other in family_of(firms, number)])
    return depth_of(firms, parent) + 1 + deepest - depth_of(firms, number)


def move_firm(house, numbers):
    number = numbers[0]
    parent = numbers[1]
    if number not in house.firms or not may_be_parent(house, parent):
        return [NO_FIRM]
    if number in line_of_parents(house.firms, parent):
        return [WRONG_PLACE_IN_TREE]
    if depth_behind_move(house.firms, number, parent) > MOST_DEPTH:
        return [WRONG_PLACE_IN_TREE]
    firm = house.firms[number]
    firm.parent = parent
    return [0]


def make_desk(house, numbers):
    if numbers[0] not in house.firms:
        return [NO_FIRM]
    if house.desks_made == MOST_DESKS:
        return [TOO_MANY]
    house.desks_made = house.desks_made + 1
    house.desks[house.desks_made] = Desk(numbers[0], numbers[1])
    return [0, house.desks_made]


def give_desk(house, numbers):
    if numbers[0] not in house.desks:
        return [NO_DESK]
    if numbers[1] not in house.firms:
        return [NO_FIRM]
    desk = house.desks[numbers[0]]
    desk.firm = numbers[1]
    return [0]


def close_desk(house, numbers):
    desk = numbers[0]
    if desk not in house.desks:
        return [NO_DESK]
    if len(orders_of(house, desk)) > 0:
        return [STILL_IN_USE]
    house.desks.pop(desk)
    return [0]


def owe_more(house, firm, money):
    add_owing(house, firm, money)
    if some_firm_owes_too_much(house):
        return [OWES_TOO_MUCH]
    return [0, house.firms[firm].owes]


def pay_in(house, numbers):
    if numbers[0] not in house.firms:
        return [NO_FIRM]
    return owe_more(house, numbers[0], -numbers[1])


def pay_out(house, numbers):
    if numbers[0] not in house.firms:
        return [NO_FIRM]
    if is_stopped(house, numbers[0]):
        return [STOPPED]
    return owe_more(house, numbers[0], numbers[1])


def charge_firm(house, numbers):
    if numbers[0] not in house.firms:
        return [NO_FIRM]
    return owe_more(house, numbers[0], numbers[1])


def stop_firm(house, numbers):
    if numbers[0] not in house.firms:
        return [NO_FIRM]
    firm = house.firms[numbers[0]]
    firm.stopped = numbers[1]
    return [0]


def leave_house(house, numbers):
    number = numbers[0]
    if number not in house.firms:
        return [NO_FIRM]
    has_firms = any([firm.parent == number for firm in house.firms.values()])
    has_desks = any([desk.firm == number for desk in house.desks.values()])
    if has_firms or has_desks or house.firms[number].owes != 0:
        return [STILL_IN_USE]
    house.firms.pop(number)
    return [0]


FIRM_CALLS = {
    0: open_house,
    1: found_firm,
    2: set_line,
    3: set_fence,
    4: move_firm,
    5: make_desk,
    6: give_desk,
    7: close_desk,
    16: pay_in,
    17: pay_out,
    18: charge_firm,
    19: stop_firm,
    20: leave_house,
}

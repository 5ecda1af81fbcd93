"""What firms need, and whether there is room for a call."""

from quarterdesk.records import depth_of, line_of_parents
from quarterdesk.holding import holds_of


# Rounded down before the minus: what is to come counts too little rather than too much.
def weight(owes, counts):
    return owes if owes >= 0 else -(counts * -owes // 100)


def own_needs(house):
    needs = dict([(number, weight(firm.owes, house.counts)) for number, firm in house.firms.items()])
    for number, desk in house.desks.items():
        needs[desk.firm] = needs[desk.firm] + sum(holds_of(house, number))
    return needs


# The deepest come first, so that a firm's need is ready before it is added to its parent's.
def all_needs(house):
    needs = own_needs(house)
    for number in sorted(house.firms, key=lambda other: -depth_of(house.firms, other)):
        firm = house.firms[number]
        if firm.parent != 0:
            passed_on = max(needs[number], 0) if firm.fenced == 1 else needs[number]
            needs[firm.parent] = needs[firm.parent] + passed_on
    return needs


# The firms that want room behind a call, in order of number, each with how much its need is above its line.
# No call that is asked for room founds a firm or lets one leave, so both houses have the same firms.
def firms_in_the_way(before, after):
    old_needs = all_needs(before)
    new_needs = all_needs(after)
    found = []
    for number in sorted(after.firms):
        firm = after.firms[number]
        worse = new_needs[number] > old_needs[number] or firm.line < before.firms[number].line
        if new_needs[number] > firm.line and worse:
            found.append((number, new_needs[number] - firm.line))
    return found


# By how much a firm's own need may grow till it or a firm above it stands in the way. Where a fenced
# firm's need is below 0, the firms above don't see its growth until that much is used up.
def room_to_grow(house, firm):
    needs = all_needs(house)
    unseen = 0
    rooms = []
    for number in line_of_parents(house.firms, firm):
        record = house.firms[number]
        rooms.append(unseen + max(record.line - needs[number], 0))
        if record.fenced == 1:
            unseen = unseen + max(-needs[number], 0)
    return min(rooms)

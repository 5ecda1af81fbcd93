"""A plain reckoning of what the document says, for comparison: slow, and sharing nothing with the program.

It tries all whole prices, all sets of blocks, and reckons everything anew each time it's asked.
It takes and gives calls and replies in the tests' readable form.
"""

import copy
from itertools import combinations


class Refused(Exception):
    pass


def refuse_if(wrong, number):
    if wrong:
        raise Refused(number)


def due(side, price, amount):
    return price * amount * (1 if side == 0 else -1)


def better(side, own, price):
    return price < own if side == 0 else price > own


class PlainHouse:
    def __init__(self):
        self.opened = None
        self.firms = []
        self.desks = []
        self.orders = []

    # Firms, desks and orders are dicts in lists; one that's gone stays as None, so that places are numbers.

    def there(self, records, number, refusal):
        refuse_if(number > len(records) or records[number - 1] is None, refusal)
        return records[number - 1]

    def firm_at(self, number):
        return self.there(self.firms, number, -5)

    def desk_at(self, number):
        return self.there(self.desks, number, -6)

    def order_at(self, number):
        return self.there(self.orders, number, -7)

    def numbered(self, records):
        return [(place + 1, record) for place, record in enumerate(records) if record is not None]

    def above(self, records, number):
        """The number itself, its parent and so on."""
        return [number] + self.above(records, records[number - 1]["parent"]) if number else []

    def below(self, records, number):
        """The number itself, and all that hangs on it."""
        found = [number]
        for other, record in self.numbered(records):
            if record.get("parent") == number:
                found += self.below(records, other)
        return sorted(found)

    # What's held.

    def step_owes(self, step, price):
        whole = due(step["side"], price, step["amount"])
        if price == step["price"]:
            return max(whole, 0)
        return whole if better(step["side"], step["price"], price) else 0

    def steps(self, desk, quarter):
        return [order for _, order in self.numbered(self.orders)
                if order["kind"] == 1 and order["desk"] == desk and order["quarter"] == quarter]

    def net(self, desk, quarter, price):
        return sum(self.step_owes(step, price) for step in self.steps(desk, quarter))

    def worst(self, desk, quarter):
        prices = range(self.opened[0], self.opened[1] + 1)
        nets = [self.net(desk, quarter, price) for price in prices]
        return max(nets), prices[nets.index(max(nets))]

    def own_due(self, number):
        order = self.orders[number - 1]
        return due(order["side"], order["price"], order["amount"])

    def is_whole(self, root, blocks):
        others = [number for number in blocks if number != root]
        return root in blocks and all(self.orders[number - 1]["parent"] in blocks for number in others)

    def held_for_family(self, root):
        family = self.below(self.orders, root)
        held = 0
        for count in range(len(family) + 1):
            for blocks in combinations(family, count):
                if self.is_whole(root, blocks):
                    held = max(held, sum(self.own_due(number) for number in blocks))
        return held

    def holds(self, desk):
        orders = [(number, order) for number, order in self.numbered(self.orders) if order["desk"] == desk]
        quarters = {order["quarter"] for _, order in orders if order["kind"] == 1}
        lives = sum(max(self.own_due(number), 0) for number, order in orders if order["kind"] == 2)
        roots = [(number, order["group"]) for number, order in orders if order["kind"] == 3 and order["parent"] == 0]
        blocks = sum(self.held_for_family(number) for number, group in roots if group == 0)
        for wanted in range(1, 10):
            blocks += max([self.held_for_family(number) for number, group in roots if group == wanted] + [0])
        return [sum(self.worst(desk, quarter)[0] for quarter in quarters), lives, blocks]

    def own_need(self, firm):
        owes = self.firms[firm - 1]["owes"]
        weighs = owes if owes >= 0 else -(self.opened[2] * -owes // 100)
        desks = [number for number, desk in self.numbered(self.desks) if desk["firm"] == firm]
        return weighs + sum(sum(self.holds(desk)) for desk in desks)

    def need(self, firm):
        total = self.own_need(firm)
        for child, record in self.numbered(self.firms):
            if record["parent"] == firm:
                need = self.need(child)
                total += max(need, 0) if record["fenced"] else need
        return total

    def in_the_way(self, before):
        """The firms that are above their lines, and by the call need more or have a lower line; and by how much."""
        found = []
        for number, firm in self.numbered(self.firms):
            need = self.need(number)
            if need > firm["line"]:
                if need > before.need(number) or firm["line"] < before.firms[number - 1]["line"]:
                    found.append((number, need - firm["line"]))
        return found

    # The calls, one method each. A refused one may leave a mess: it's done to a copy.

    def do_open(self, low, high, counts):
        refuse_if(self.opened is not None, -3)
        refuse_if(high < low, -4)
        self.opened = (low, high, counts)
        return []

    def do_found(self, parent, line, fenced):
        if parent:
            self.firm_at(parent)
        refuse_if(len(self.firms) >= 64, -8)
        refuse_if(len(self.above(self.firms, parent)) >= 8, -9)
        self.firms.append({"parent": parent, "line": line, "fenced": fenced, "owes": 0, "stopped": 0})
        return [len(self.firms)]

    def do_line(self, firm, line):
        self.firm_at(firm)["line"] = line
        return []

    def do_fence(self, firm, fenced):
        self.firm_at(firm)["fenced"] = fenced
        return []

    def do_move(self, firm, parent):
        record = self.firm_at(firm)
        if parent:
            self.firm_at(parent)
        refuse_if(parent in self.below(self.firms, firm), -9)
        record["parent"] = parent
        refuse_if(any(len(self.above(self.firms, number)) > 8 for number, _ in self.numbered(self.firms)), -9)
        return []

    def do_desk(self, firm, zone):
        self.firm_at(firm)
        refuse_if(len(self.desks) >= 64, -8)
        self.desks.append({"firm": firm, "zone": zone})
        return [len(self.desks)]

    def do_give(self, desk, firm):
        record = self.desk_at(desk)
        self.firm_at(firm)
        record["firm"] = firm
        return []

    def do_close(self, desk):
        self.desk_at(desk)
        refuse_if(any(order["desk"] == desk for _, order in self.numbered(self.orders)), -13)
        self.desks[desk - 1] = None
        return []

    def outside(self, price):
        return not self.opened[0] <= price <= self.opened[1]

    def stopped(self, firm):
        return any(self.firms[number - 1]["stopped"] for number in self.above(self.firms, firm))

    def enter(self, order):
        refuse_if(self.stopped(self.desks[order["desk"] - 1]["firm"]), -10)
        refuse_if(self.outside(order["price"]), -11)
        refuse_if(len(self.numbered(self.orders)) >= 64, -8)
        self.orders.append(order)
        return [len(self.orders)]

    def do_step(self, desk, quarter, side, price, amount):
        self.desk_at(desk)
        return self.enter({"kind": 1, "desk": desk, "side": side, "price": price, "amount": amount,
                           "quarter": quarter, "parent": 0, "group": 0})

    def do_live(self, desk, side, price, amount):
        self.desk_at(desk)
        return self.enter({"kind": 2, "desk": desk, "side": side, "price": price, "amount": amount,
                           "quarter": 0, "parent": 0, "group": 0})

    def do_block(self, desk, side, price, parent, group, quarter, amounts):
        self.desk_at(desk)
        if parent:
            above = self.order_at(parent)
            refuse_if(above["kind"] != 3 or above["desk"] != desk or group != 0, -12)
            refuse_if(len(self.above(self.orders, parent)) >= 8, -12)
        return self.enter({"kind": 3, "desk": desk, "side": side, "price": price, "amount": sum(amounts),
                           "quarter": quarter, "parent": parent, "group": group, "amounts": amounts})

    def drop(self, numbers):
        for number in numbers:
            self.orders[number - 1] = None
        return len(numbers)

    def do_cancel(self, order):
        self.order_at(order)
        return [self.drop(self.below(self.orders, order))]

    def do_cut(self, order, amount):
        record = self.order_at(order)
        refuse_if(record["kind"] == 3 or amount >= record["amount"], -12)
        record["amount"] = amount
        return []

    def add(self, desk, money):
        self.firms[self.desks[desk - 1]["firm"] - 1]["owes"] += money

    def look_at_owing(self):
        refuse_if(any(not -10**18 <= firm["owes"] <= 10**18 for _, firm in self.numbered(self.firms)), -14)

    def do_fill(self, order, amount, price):
        record = self.order_at(order)
        refuse_if(self.outside(price), -11)
        refuse_if(record["kind"] != 2 or amount > record["amount"], -12)
        refuse_if(price != record["price"] and not better(record["side"], record["price"], price), -12)
        added = due(record["side"], price, amount)
        self.add(record["desk"], added)
        self.look_at_owing()
        record["amount"] -= amount
        if not record["amount"]:
            self.drop([order])
        return [added]

    def do_settle(self, zone, quarter, price, shares):
        refuse_if(self.outside(price), -11)
        desks = [number for number, desk in self.numbered(self.desks) if desk["zone"] == zone]
        steps = [(number, order) for number, order in self.numbered(self.orders)
                 if order["kind"] == 1 and order["quarter"] == quarter and order["desk"] in desks]
        refuse_if(len(steps) != len(shares), -12)
        added = []
        for (_, step), share in zip(steps, shares):
            refuse_if(share > step["amount"], -12)
            if price != step["price"]:
                gains = better(step["side"], step["price"], price)
                refuse_if(share != (step["amount"] if gains else 0), -12)
            added.append(due(step["side"], price, share))
            self.add(step["desk"], added[-1])
        self.look_at_owing()
        return [self.drop([number for number, _ in steps])] + added

    def owed_at(self, number, prices):
        block = self.orders[number - 1]
        quarters = dict(enumerate(prices))
        return sum(due(block["side"], quarters.get(block["quarter"] + place, self.opened[0]), amount)
                   for place, amount in enumerate(block["amounts"]))

    def do_take(self, order, taken, prices):
        root = self.order_at(order)
        refuse_if(any(self.outside(price) for price in prices), -11)
        refuse_if(root["kind"] != 3 or root["parent"] != 0, -12)
        refuse_if(sorted(set(taken)) != taken, -12)
        refuse_if(not set(taken) <= set(self.below(self.orders, order)), -12)
        refuse_if(not self.is_whole(order, taken), -12)
        for number in taken:
            hanging = [other for other in self.below(self.orders, number) if other in taken]
            refuse_if(sum(self.own_due(other) - self.owed_at(other, prices) for other in hanging) < 0, -12)
        added = sum(self.owed_at(number, prices) for number in taken)
        self.add(root["desk"], added)
        self.look_at_owing()
        going = self.below(self.orders, order)
        if root["group"]:
            for number, other in self.numbered(self.orders):
                if number != order and other["desk"] == root["desk"] and other["group"] == root["group"]:
                    going += self.below(self.orders, number)
        return [self.drop(going), added]

    def owe(self, firm, money):
        record = self.firm_at(firm)
        record["owes"] += money
        self.look_at_owing()
        return [record["owes"]]

    def do_payin(self, firm, money):
        return self.owe(firm, -money)

    def do_payout(self, firm, money):
        self.firm_at(firm)
        refuse_if(self.stopped(firm), -10)
        return self.owe(firm, money)

    def do_charge(self, firm, money):
        return self.owe(firm, money)

    def do_stop(self, firm, flag):
        self.firm_at(firm)["stopped"] = flag
        return []

    def do_leave(self, firm):
        record = self.firm_at(firm)
        refuse_if(any(other["parent"] == firm for _, other in self.numbered(self.firms)), -13)
        refuse_if(any(desk["firm"] == firm for _, desk in self.numbered(self.desks)), -13)
        refuse_if(record["owes"] != 0, -13)
        self.firms[firm - 1] = None
        return []

    def do_need(self, firm):
        record = self.firm_at(firm)
        room = min(self.firms[number - 1]["line"] - self.need(number) for number in self.above(self.firms, firm))
        return [self.own_need(firm), self.need(firm), record["line"], room]

    def do_firm(self, firm):
        record = self.firm_at(firm)
        depth = len(self.above(self.firms, firm))
        return [record["parent"], record["fenced"], record["owes"], record["stopped"], depth]

    def branch(self, parent, depth):
        told = []
        for number, firm in self.numbered(self.firms):
            if firm["parent"] == parent:
                told += [number, depth] + self.branch(number, depth + 1)
        return told

    def do_tree(self):
        told = self.branch(0, 1)
        return [len(told) // 2] + told

    def do_short(self):
        told = []
        for number, firm in self.numbered(self.firms):
            if self.need(number) > firm["line"]:
                told += [number, self.need(number) - firm["line"]]
        return [len(told) // 2] + told

    def do_worst(self, desk, quarter):
        self.desk_at(desk)
        return list(self.worst(desk, quarter))

    def do_at(self, desk, quarter, price):
        self.desk_at(desk)
        refuse_if(self.outside(price), -11)
        return [self.net(desk, quarter, price)]

    def has_room_for(self, desk, quarter, side, price, amount):
        behind = copy.deepcopy(self)
        behind.orders.append({"kind": 1, "desk": desk, "side": side, "price": price, "amount": amount,
                              "quarter": quarter, "parent": 0, "group": 0})
        return not behind.in_the_way(self)

    def do_most(self, desk, quarter, side, price):
        """Halves again and again; that room never comes back with a greater amount is tested by itself."""
        self.desk_at(desk)
        refuse_if(self.outside(price), -11)
        fits, beyond = 0, 10**9 + 1
        while beyond - fits > 1:
            middle = (fits + beyond) // 2
            if self.has_room_for(desk, quarter, side, price, middle):
                fits = middle
            else:
                beyond = middle
        return [fits]

    def do_hold(self, desk):
        self.desk_at(desk)
        return self.holds(desk)

    def do_order(self, order):
        record = self.order_at(order)
        return [record[key] for key in ("kind", "desk", "side", "price", "amount", "quarter", "parent", "group")]

    def do_orders(self, desk):
        self.desk_at(desk)
        numbers = [number for number, order in self.numbered(self.orders) if order["desk"] == desk]
        return [len(numbers)] + numbers


NEED_ROOM = ("line", "fence", "move", "give", "step", "live", "block", "cancel", "cut", "payout")


def attempt(house, call):
    """The reply to a call, the house behind it, and the firms in its way."""
    behind = copy.deepcopy(house)
    in_the_way = []
    try:
        refuse_if(call[0] != "open" and house.opened is None, -2)
        told = getattr(behind, "do_" + call[0])(*call[1:])
        if call[0] in NEED_ROOM:
            in_the_way = behind.in_the_way(house)
        refuse_if(in_the_way, -15)
    except Refused as refusal:
        return [refusal.args[0]], house, in_the_way
    return [0] + told, behind, []


def plain_reply(house, call):
    """The reply to a call whose arguments are within their ranges, and the house behind it."""
    if call[0] == "would":
        reply, _, in_the_way = attempt(house, call[1:])
        return [0, reply[0], len(in_the_way)] + [part for pair in in_the_way for part in pair], house
    reply, behind, _ = attempt(house, call)
    return reply, behind


def plain_run(calls):
    house = PlainHouse()
    replies = []
    for call in calls:
        reply, house = plain_reply(house, call)
        replies.append(reply)
    return replies

"""The program against the plain reckoning, on calls drawn with fixed seeds."""

import random
from itertools import product

from helper import BILLION, BUY, HUGE, SELL, HouseTest, last, run, would
from plain import NEED_ROOM, PlainHouse, plain_reply, plain_run
from test_ranges import RANGES

# How often each call is drawn.
WEIGHTS = {
    "found": 5, "line": 8, "fence": 8, "move": 5, "desk": 4, "give": 4, "close": 1, "step": 14, "live": 4, "block": 12,
    "cancel": 6, "cut": 6, "fill": 4, "settle": 4, "take": 5, "payin": 3, "payout": 4, "charge": 3, "stop": 2,
    "leave": 2, "need": 4, "firm": 2, "tree": 2, "short": 2, "worst": 3, "at": 2, "most": 3, "hold": 3, "order": 2,
    "orders": 2, "open": 1, "would": 30,
}
OTHERS = tuple(name for name in WEIGHTS if name != "would")


class Draw:
    """Draws calls that are mostly sensible, from the plain house as it is now."""

    def __init__(self, seed):
        self.random = random.Random(seed)
        self.low = self.random.randint(-7, 4)
        self.high = self.low + self.random.randint(0, 9)

    def number(self, records):
        there = [place + 1 for place, record in enumerate(records) if record is not None]
        if there and self.random.random() < 0.95:
            return self.random.choice(there)
        return self.random.randint(1, len(records) + 1)

    def price(self):
        if self.random.random() < 0.03:
            return self.random.choice((self.low - 1, self.high + 1))
        return self.random.randint(self.low, self.high)

    def amount(self):
        return self.random.randint(1, 6)

    def quarter(self):
        return self.random.choice((0, 0, 0, 1, 99))

    def flag(self):
        return self.random.randint(0, 1)

    def line(self):
        return self.random.choice((0, 5, 20, 40, 80, 200))

    def tight_line(self, house, firm):
        """Often a line near the firm's need, so that there's hardly any room left."""
        there = firm <= len(house.firms) and house.firms[firm - 1] is not None
        if there and self.random.random() < 0.8:
            return max(house.need(firm) + self.random.randint(-1, 3), 0)
        return self.line()

    def firm_or_none(self, house):
        return self.number(house.firms) if house.firms and self.random.random() < 0.7 else 0

    def block(self, house):
        desk = self.number(house.desks)
        blocks = [number for number, order in house.numbered(house.orders) if order["kind"] == 3]
        parent = 0
        if blocks and self.random.random() < 0.6:
            parent = self.random.choice(blocks)
            desk = house.orders[parent - 1]["desk"] if self.random.random() < 0.9 else desk
        elif self.random.random() < 0.1:
            parent = self.number(house.orders)
        group = self.random.choice((0, 1, 2)) if parent == 0 or self.random.random() < 0.05 else 0
        quarter = self.random.choice((0, 1, 97))
        amounts = [self.random.randint(0, 3) for _ in range(self.random.randint(0, 2))] + [self.amount()]
        return ("block", desk, self.flag(), self.price(), parent, group, quarter, amounts)

    def settle(self, house):
        zone = self.random.randint(0, 1)
        quarter = self.quarter()
        price = self.price()
        shares = []
        for _, order in house.numbered(house.orders):
            if order["kind"] == 1 and order["quarter"] == quarter and house.desks[order["desk"] - 1]["zone"] == zone:
                owes = price < order["price"] if order["side"] == BUY else price > order["price"]
                share = order["amount"] if owes else 0
                if price == order["price"]:
                    share = self.random.randint(0, order["amount"])
                if self.random.random() < 0.03:
                    share = self.random.randint(0, order["amount"] + 1)
                shares.append(share)
        if self.random.random() < 0.05:
            shares = shares[1:] if self.flag() else shares + [0]
        return ("settle", zone, quarter, price, shares)

    def take(self, house):
        roots = [number for number, order in house.numbered(house.orders) if order["kind"] == 3 and not order["parent"]]
        order = self.random.choice(roots) if roots and self.random.random() < 0.9 else self.number(house.orders)
        taken = [order]
        if order <= len(house.orders) and house.orders[order - 1] is not None:
            for number in house.below(house.orders, order)[1:]:
                hangs = house.orders[number - 1]["parent"] in taken
                if self.random.random() < (0.6 if hangs else 0.03):
                    taken.append(number)
        if self.random.random() < 0.05:
            taken = taken[1:] if self.flag() else taken + [self.number(house.orders)]
        prices = [self.price() for _ in range(self.random.choice((0, 1, 2, 3, 3, 4, 100)))]
        return ("take", order, taken, prices)

    def cut(self, house):
        return ("cut", self.number(house.orders), self.amount())

    def fill(self, house):
        lives = [number for number, order in house.numbered(house.orders) if order["kind"] == 2]
        order = self.random.choice(lives) if lives and self.random.random() < 0.9 else self.number(house.orders)
        return ("fill", order, self.random.randint(1, 4), self.price())

    def call(self, house):
        name = self.random.choices(list(WEIGHTS), list(WEIGHTS.values()))[0]
        if name == "would":
            # Calls that may be refused for want of room come up more often than the others.
            return would(self.call_named(self.random.choice(OTHERS + NEED_ROOM), house))
        return self.call_named(name, house)

    def call_named(self, name, house):
        if name in ("block", "settle", "take", "cut", "fill"):
            return getattr(self, name)(house)
        firm, desk, order = (self.number(records) for records in (house.firms, house.desks, house.orders))
        return {
            "open": lambda: ("open", self.low, self.high, 50),
            "found": lambda: ("found", self.firm_or_none(house), self.line(), self.flag()),
            "line": lambda: ("line", firm, self.tight_line(house, firm)),
            "fence": lambda: ("fence", firm, self.flag()),
            "move": lambda: ("move", firm, self.firm_or_none(house)),
            "desk": lambda: ("desk", firm, self.flag()),
            "give": lambda: ("give", desk, firm),
            "close": lambda: ("close", desk),
            "step": lambda: ("step", desk, self.quarter(), self.flag(), self.price(), self.amount()),
            "live": lambda: ("live", desk, self.flag(), self.price(), self.amount()),
            "cancel": lambda: ("cancel", order),
            "payin": lambda: ("payin", firm, self.random.randint(1, 30)),
            "payout": lambda: ("payout", firm, self.random.randint(1, 30)),
            "charge": lambda: ("charge", firm, self.random.randint(-40, 25)),
            "stop": lambda: ("stop", firm, self.random.choice((0, 0, 1))),
            "leave": lambda: ("leave", firm),
            "need": lambda: ("need", firm),
            "firm": lambda: ("firm", firm),
            "tree": lambda: ("tree",),
            "short": lambda: ("short",),
            "worst": lambda: ("worst", desk, self.quarter()),
            "at": lambda: ("at", desk, self.quarter(), self.price()),
            "most": lambda: ("most", desk, self.quarter(), self.flag(), self.price()),
            "hold": lambda: ("hold", desk),
            "order": lambda: ("order", order),
            "orders": lambda: ("orders", desk),
        }[name]()


def drawn_calls(seed, count, early=0):
    """Calls drawn for a house, and what the plain reckoning answers to them; some come before the house is open."""
    draw = Draw(seed)
    house = PlainHouse()
    calls = []
    replies = []
    for place in range(-early, count):
        if place < 0:
            call = draw.call(house)
        elif place == 0:
            call = ("open", draw.low, draw.high, draw.random.choice((0, 50, 77, 100)))
        elif place < 4:
            call = ("found", draw.firm_or_none(house), 200, 0)
        elif place < 6:
            call = ("desk", draw.number(house.firms), place % 2)
        else:
            call = draw.call(house)
        reply, house = plain_reply(house, call)
        calls.append(call)
        replies.append(reply)
    return calls, replies


def spoiled(draw, call):
    """The call with one of its numbers just out of its range."""
    place = draw.randrange(len(RANGES[call[0]]))
    low, high = RANGES[call[0]][place]
    numbers = list(call)
    numbers[place + 1] = low - 1 if high == HUGE or draw.randrange(2) else high + 1
    return tuple(numbers)


class AgainstThePlainReckoning(HouseTest):
    def test_drawn_calls(self):
        seen = {}
        for seed in range(120):
            calls, replies = drawn_calls(seed, 110, early=3 if seed % 10 == 0 else 0)
            for call, reply, given in zip(calls, replies, run(calls)):
                self.assertEqual(given, reply, (seed, call))
                key = ("would", call[1], reply[1]) if call[0] == "would" else (call[0], reply[0])
                seen[key] = seen.get(key, 0) + 1
                if call[0] == "would":
                    seen[reply[2]] = seen.get(reply[2], 0) + 1
        for name in OTHERS:
            if name != "open":
                self.assertGreater(seen.get((name, 0), 0), 10, name)
                self.assertGreater(seen.get(("would", name, 0), 0), 3, name)
        for name in ("line", "fence", "move", "give", "step", "live", "block", "payout"):
            self.assertGreater(seen.get((name, -15), 0), 0, name)
            self.assertGreater(seen.get(("would", name, -15), 0), 0, name)
        for in_the_way in (1, 2, 3):
            self.assertGreater(seen.get(in_the_way, 0), 0, in_the_way)

    def test_each_call_behind_its_would(self):
        for seed in range(200, 240):
            calls, _ = drawn_calls(seed, 110, early=3)
            calls = [call[1:] if call[0] == "would" else call for call in calls]
            doubled = run([asked for call in calls for asked in (would(call), call)])
            self.assertEqual(doubled[1::2], run(calls), seed)
            for call, told, reply in zip(calls, doubled[0::2], doubled[1::2]):
                self.check_told(told, call, reply[0])

    def test_would_of_every_call_at_once(self):
        for seed in range(300, 330):
            draw = Draw(seed)
            calls, house = [], PlainHouse()
            for call in drawn_calls(seed, 60)[0]:
                calls.append(call)
                house = plain_reply(house, call)[1]
            asked = [draw.call_named(name, house) for name in OTHERS]
            told = run(calls + [would(call) for call in asked])[len(calls):]
            self.assertEqual(told, [plain_reply(house, would(call))[0] for call in asked], seed)
            for call, reply in zip(asked, told):
                self.check_told(reply, call, last(calls + [call])[0])

    def test_calls_out_of_range_among_them(self):
        for seed in range(400, 430):
            draw = random.Random(seed)
            mixed, expected = [], []
            for call, reply in zip(*drawn_calls(seed, 110, early=3)):
                other = call[1:] if call[0] == "would" else call
                if RANGES[other[0]]:
                    mixed += [spoiled(draw, other), would(spoiled(draw, other))]
                    expected += [[-1], [-1]]
                mixed.append(call)
                expected.append(reply)
            self.assertLessEqual(len(mixed), 400)
            self.assertEqual(run(mixed), expected, seed)


def small_house(low, high, line=10**6):
    return [("open", low, high, 50), ("found", 0, line, 0), ("desk", 1, 0)]


class WorstOfSteps(HouseTest):
    def test_against_all_whole_prices(self):
        draw = random.Random(1)
        for _ in range(400):
            low = draw.randint(-8, 6)
            high = low + draw.randint(0, 8)
            calls = small_house(low, high)
            for _ in range(draw.randint(0, 7)):
                calls.append(("step", 1, 0, draw.randint(0, 1), draw.randint(low, high), draw.randint(1, 5)))
            calls.append(("worst", 1, 0))
            calls += [("at", 1, 0, price) for price in range(low, high + 1)]
            replies = run(calls)
            self.assertEqual(replies, plain_run(calls), calls)
            nets = [reply[1] for reply in replies[-(high - low + 1):]]
            self.assertEqual(replies[-(high - low + 2)], [0, max(nets), low + nets.index(max(nets))], calls)

    def test_all_pairs_of_steps_near_zero(self):
        for first, second in product(product((BUY, SELL), range(-2, 3), (1, 3)), repeat=2):
            calls = small_house(-2, 2) + [("step", 1, 0) + first, ("step", 1, 0) + second, ("worst", 1, 0)]
            self.assertEqual(run(calls), plain_run(calls), calls)


class Families(HouseTest):
    def test_against_all_whole_sets(self):
        draw = random.Random(2)
        for _ in range(150):
            calls = small_house(-5, 5)
            roots = draw.randint(1, 3)
            for number in range(1, draw.randint(2, 9)):
                parent = 0 if number <= roots else draw.randint(1, number - 1)
                group = draw.choice((0, 0, 3)) if parent == 0 else 0
                calls.append(("block", 1, draw.randint(0, 1), draw.randint(-5, 5), parent, group, 0,
                              [draw.randint(1, 5) for _ in range(draw.randint(1, 3))]))
            calls.append(("hold", 1))
            self.assertEqual(run(calls), plain_run(calls), calls)


class MostByTrying(HouseTest):
    def setups(self):
        draw = random.Random(3)
        for _ in range(150):
            low = draw.randint(-6, 4)
            high = low + draw.randint(0, 9)
            calls = [("open", low, high, 100), ("found", 0, draw.randint(0, 40), 0),
                     ("found", 1, draw.randint(0, 60), draw.randint(0, 1)), ("desk", draw.randint(1, 2), 0)]
            for _ in range(draw.randint(0, 5)):
                calls.append(("step", 1, 0, draw.randint(0, 1), draw.randint(low, high), draw.randint(1, 5)))
            for _ in range(draw.randint(0, 2)):
                calls.append(("charge", draw.randint(1, 2), draw.randint(-30, 30)))
            yield calls, draw.randint(0, 1), draw.randint(low, high)

    def check_amount(self, calls, side, price, amount, most):
        step = ("step", 1, 0, side, price, amount)
        self.assertEqual(last(calls + [step]) != [-15], amount <= most, (calls, step))

    def test_near_its_answer(self):
        kinds = set()
        for calls, side, price in self.setups():
            most = last(calls + [("most", 1, 0, side, price)])[1]
            kinds.add("all" if most == BILLION else "none" if most == 0 else "some")
            for amount in range(max(most - 3, 1), min(most + 4, BILLION + 1)):
                self.check_amount(calls, side, price, amount, most)
        self.assertEqual(kinds, {"all", "none", "some"})

    def test_from_one_on(self):
        for calls, side, price in list(self.setups())[:40]:
            most = last(calls + [("most", 1, 0, side, price)])[1]
            for amount in list(range(1, 60)) + [10**k for k in range(2, 10)]:
                self.check_amount(calls, side, price, amount, most)

"""The calls that ask: what they answer, and that they change nothing."""

from helper import BILLION, BUY, HUGE, SELL, HouseTest, last

OPEN = [("open", -10, 10, 50)]
FIRMS = OPEN + [
    ("found", 0, 100, 0), ("found", 0, 90, 0), ("found", 1, 80, 1), ("found", 2, 70, 0), ("found", 1, 60, 0),
    ("found", 3, 50, 0), ("move", 2, 6), ("desk", 6, 2), ("desk", 1, 4),
]
ORDERS = FIRMS + [
    ("step", 1, 8, BUY, 5, 3), ("live", 1, SELL, -4, 2), ("block", 1, BUY, 2, 0, 6, 3, [1, 2]),
    ("block", 2, BUY, 2, 0, 0, 3, [5]), ("charge", 5, -7), ("charge", 3, 12), ("stop", 5, 1),
]


class Firms(HouseTest):
    def test_need(self):
        self.check_asks(ORDERS, ("need", 6), [29, 29, 50, 21])
        self.check_asks(ORDERS, ("need", 3), [12, 41, 80, 39])
        self.check_asks(ORDERS, ("need", 5), [-3, -3, 60, 52])
        self.check_asks(ORDERS, ("need", 1), [10, 48, 100, 52])
        self.check_asks(ORDERS, ("need", 4), [0, 0, 70, 21])
        self.check_asks(ORDERS + [("charge", 1, 100)], ("need", 4), [0, 0, 70, -48])
        self.check_refused(ORDERS, ("need", 7), -5)

    def test_least_room_may_be_far_above(self):
        calls = OPEN + [("found", parent, 9 if parent == 0 else HUGE, 0) for parent in range(8)]
        self.check_asks(calls, ("need", 8), [0, 0, HUGE, 9])
        self.check_asks(calls + [("charge", 1, 20)], ("need", 8), [0, 0, HUGE, -11])

    def test_firm(self):
        self.check_asks(ORDERS, ("firm", 1), [0, 0, 0, 0, 1])
        self.check_asks(ORDERS, ("firm", 2), [6, 0, 0, 0, 4])
        self.check_asks(ORDERS, ("firm", 3), [1, 1, 12, 0, 2])
        self.check_asks(ORDERS, ("firm", 5), [1, 0, -7, 1, 2])
        self.check_refused(ORDERS, ("firm", 7), -5)

    def test_tree(self):
        self.check_asks(OPEN, ("tree",), [0])
        self.check_asks(ORDERS, ("tree",), [6, 1, 1, 3, 2, 6, 3, 2, 4, 4, 5, 5, 2])
        self.check_asks(FIRMS + [("move", 2, 0)], ("tree",), [6, 1, 1, 3, 2, 6, 3, 5, 2, 2, 1, 4, 2])

    def test_tree_of_numbers_with_two_digits(self):
        calls = OPEN + [("found", 0, 0, 0)] * 11 + [("move", 10, 2), ("move", 9, 2), ("move", 1, 11)]
        self.check_asks(calls, ("tree",), [11, 2, 1, 9, 2, 10, 2, 3, 1, 4, 1, 5, 1, 6, 1, 7, 1, 8, 1, 11, 1, 1, 2])

    def test_short(self):
        self.check_asks(OPEN, ("short",), [0])
        self.check_asks(ORDERS, ("short",), [0])
        self.check_asks(ORDERS + [("charge", 6, 21)], ("short",), [0])
        self.check_asks(ORDERS + [("charge", 6, 22)], ("short",), [1, 6, 1])
        self.check_asks(ORDERS + [("charge", 6, 100)], ("short",), [3, 1, 48, 3, 61, 6, 79])


class Steps(HouseTest):
    calls = OPEN + [("found", 0, 1000, 0), ("desk", 1, 0), ("step", 1, 8, BUY, 5, 3), ("step", 1, 8, SELL, 2, 4),
                    ("step", 1, 9, BUY, -5, 3), ("step", 1, 9, SELL, -7, 3)]

    def test_worst(self):
        self.check_asks(self.calls, ("worst", 1, 8), [6, 2])
        self.check_asks(self.calls, ("worst", 1, 9), [15, -5])
        self.check_asks(self.calls, ("worst", 1, 0), [0, -10])
        self.check_asks(self.calls, ("worst", 1, 99), [0, -10])
        self.check_refused(self.calls, ("worst", 2, 8), -6)

    def test_worst_of_one_step(self):
        def worst(side, price, amount):
            calls = OPEN + [("found", 0, 1000, 0), ("desk", 1, 0), ("step", 1, 0, side, price, amount)]
            return last(calls + [("worst", 1, 0)])[1:]

        self.assertEqual(worst(BUY, 5, 3), [15, 5])
        self.assertEqual(worst(BUY, 0, 3), [0, 0])
        self.assertEqual(worst(BUY, -5, 3), [0, -5])
        self.assertEqual(worst(BUY, -10, 3), [0, -10])
        self.assertEqual(worst(BUY, 10, 3), [30, 10])
        self.assertEqual(worst(SELL, 5, 3), [0, -10])
        self.assertEqual(worst(SELL, -5, 3), [15, -5])
        self.assertEqual(worst(SELL, -10, 3), [30, -10])

    def test_worst_of_both_sides(self):
        calls = [("open", 1, 9, 0), ("found", 0, 1000, 0), ("desk", 1, 0), ("step", 1, 0, SELL, 1, 2),
                 ("step", 1, 0, BUY, 9, 2)]
        self.check_asks(calls, ("worst", 1, 0), [2, 1])
        calls = [("open", -9, -1, 0), ("found", 0, 1000, 0), ("desk", 1, 0), ("step", 1, 0, BUY, -3, 5),
                 ("step", 1, 0, SELL, -5, 4)]
        self.check_asks(calls, ("worst", 1, 0), [12, -3])
        self.check_asks(calls + [("step", 1, 0, BUY, -2, 4)], ("worst", 1, 0), [8, -2])
        self.check_asks(calls + [("step", 1, 0, BUY, -1, 4)], ("worst", 1, 0), [4, -1])

    def test_at(self):
        nets = {-10: -30, 0: 0, 1: 3, 2: 6, 3: 9 - 12, 5: 15 - 20, 6: -24, 10: -40}
        for price, net in nets.items():
            self.check_asks(self.calls, ("at", 1, 8, price), [net])
        for price, net in {-10: -30, -7: 0, -6: 0, -5: 15, -4: 12, 0: 0, 10: -30}.items():
            self.check_asks(self.calls, ("at", 1, 9, price), [net])
        self.check_asks(self.calls, ("at", 1, 0, 10), [0])

    def test_at_refused(self):
        self.check_refused(self.calls, ("at", 2, 8, 0), -6)
        self.check_refused(self.calls, ("at", 1, 8, 11), -11)
        self.check_refused(self.calls, ("at", 1, 8, -11), -11)
        self.check_refused(self.calls, ("at", 2, 8, 11), -6)


class Most(HouseTest):
    calls = OPEN + [("found", 0, 100, 0), ("desk", 1, 0)]

    def test_most(self):
        self.check_asks(self.calls, ("most", 1, 0, BUY, 7), [14])
        self.check_asks(self.calls, ("most", 1, 0, BUY, 10), [10])
        self.check_asks(self.calls, ("most", 1, 0, BUY, 1), [100])
        self.check_asks(self.calls, ("most", 1, 0, BUY, 0), [BILLION])
        self.check_asks(self.calls, ("most", 1, 0, BUY, -10), [BILLION])
        self.check_asks(self.calls, ("most", 1, 0, SELL, -7), [14])
        self.check_asks(self.calls, ("most", 1, 0, SELL, 0), [BILLION])
        self.check_asks(self.calls, ("most", 1, 0, SELL, 10), [BILLION])

    def test_none(self):
        calls = self.calls + [("payout", 1, 94)]
        self.check_asks(calls, ("most", 1, 0, BUY, 7), [0])
        self.check_asks(calls, ("most", 1, 0, BUY, 6), [1])
        self.check_asks(calls + [("charge", 1, 50)], ("most", 1, 0, BUY, 1), [0])
        self.check_asks(calls + [("charge", 1, 50)], ("most", 1, 0, BUY, 0), [BILLION])

    def test_a_firm_above_its_line_may_still_use_what_does_not_make_it_worse(self):
        calls = self.calls + [("step", 1, 0, SELL, -5, 8), ("charge", 1, 90)]
        self.check(calls, ("need", 1), [0, 130, 130, 100, -30])
        self.check_asks(calls, ("most", 1, 0, BUY, 5), [16])
        self.check_asks(calls, ("most", 1, 0, BUY, -4), [BILLION])

    def test_most_amount(self):
        calls = [("open", -1000000, 1000000, 0), ("found", 0, 10**15, 0), ("desk", 1, 0)]
        self.check_asks(calls, ("most", 1, 0, BUY, 1000000), [BILLION])
        self.check_asks(calls + [("payout", 1, 1)], ("most", 1, 0, BUY, 1000000), [BILLION - 1])
        self.check_asks(calls, ("most", 1, 0, SELL, -1000000), [BILLION])

    def test_whatever_else_might_refuse(self):
        stopped = self.calls + [("stop", 1, 1)]
        self.check_asks(stopped, ("most", 1, 0, BUY, 7), [14])
        full = self.calls + [("live", 1, BUY, 0, 1)] * 64
        self.check_asks(full, ("most", 1, 0, BUY, 7), [14])

    def test_firms_above_and_fences(self):
        calls = [("open", -10, 10, 100), ("found", 0, 20, 0), ("found", 1, 500, 0), ("found", 2, 500, 0),
                 ("desk", 3, 0)]
        self.check_asks(calls, ("most", 1, 0, BUY, 5), [4])
        self.check_asks(calls + [("charge", 3, -30)], ("most", 1, 0, BUY, 5), [10])
        self.check_asks(calls + [("charge", 3, -30), ("fence", 3, 1)], ("most", 1, 0, BUY, 5), [10])
        self.check_asks(calls + [("charge", 2, -30), ("fence", 3, 1)], ("most", 1, 0, BUY, 5), [10])
        fenced = calls + [("charge", 3, -30), ("charge", 2, -30), ("fence", 3, 1), ("fence", 2, 1)]
        self.check_asks(fenced, ("most", 1, 0, BUY, 5), [16])
        self.check_asks(fenced + [("charge", 1, 25)], ("most", 1, 0, BUY, 5), [12])
        self.check_asks(fenced + [("charge", 1, 15)], ("most", 1, 0, BUY, 5), [13])

    def test_refused(self):
        self.check_refused(self.calls, ("most", 2, 0, BUY, 0), -6)
        self.check_refused(self.calls, ("most", 1, 0, BUY, 11), -11)
        self.check_refused(self.calls, ("most", 1, 0, BUY, -11), -11)
        self.check_refused(self.calls, ("most", 2, 0, BUY, 11), -6)


class Orders(HouseTest):
    def test_hold(self):
        self.check_asks(ORDERS, ("hold", 1), [15, 8, 6])
        self.check_asks(ORDERS, ("hold", 2), [0, 0, 10])
        self.check_refused(ORDERS, ("hold", 3), -6)

    def test_holds_of_quarters_are_added(self):
        calls = ORDERS + [("step", 1, 9, BUY, 5, 2), ("step", 1, 8, SELL, -10, 1)]
        self.check_asks(calls, ("hold", 1), [10 + 10, 8, 6])

    def test_order(self):
        self.check_asks(ORDERS, ("order", 1), [1, 1, 0, 5, 3, 8, 0, 0])
        self.check_asks(ORDERS, ("order", 2), [2, 1, 1, -4, 2, 0, 0, 0])
        self.check_asks(ORDERS, ("order", 3), [3, 1, 0, 2, 3, 3, 0, 6])
        calls = ORDERS + [("block", 1, SELL, 1, 3, 0, 99, [4])]
        self.check_asks(calls, ("order", 5), [3, 1, 1, 1, 4, 99, 3, 0])
        self.check_refused(ORDERS, ("order", 5), -7)
        self.check_refused(ORDERS, ("order", BILLION), -7)

    def test_orders(self):
        self.check_asks(ORDERS, ("orders", 1), [3, 1, 2, 3])
        self.check_asks(ORDERS, ("orders", 2), [1, 4])
        self.check_asks(ORDERS + [("cancel", 2)], ("orders", 1), [2, 1, 3])
        self.check_refused(ORDERS, ("orders", 3), -6)


class Blocks(HouseTest):
    def held(self, *blocks):
        calls = OPEN + [("found", 0, HUGE, 0), ("desk", 1, 0)] + [("block", 1) + block for block in blocks]
        reply = last(calls + [("hold", 1)])
        self.assertEqual(reply[:3], [0, 0, 0])
        return reply[3]

    def test_families(self):
        self.assertEqual(self.held((BUY, 5, 0, 0, 0, [2, 3])), 25)
        self.assertEqual(self.held((SELL, 5, 0, 0, 0, [2, 3])), 0)
        self.assertEqual(self.held((SELL, -5, 0, 0, 0, [2, 3])), 25)
        self.assertEqual(self.held((BUY, 5, 0, 0, 0, [2]), (SELL, 5, 1, 0, 0, [1])), 10)
        self.assertEqual(self.held((BUY, 5, 0, 0, 0, [2]), (BUY, 5, 1, 0, 0, [1])), 15)
        self.assertEqual(self.held((SELL, 5, 0, 0, 0, [2]), (BUY, 5, 1, 0, 0, [1])), 0)
        self.assertEqual(self.held((SELL, 5, 0, 0, 0, [2]), (BUY, 5, 1, 0, 0, [3])), 5)
        self.assertEqual(self.held((BUY, 5, 0, 0, 0, [2]), (SELL, 5, 1, 0, 0, [1]), (BUY, 5, 2, 0, 0, [3])), 20)
        self.assertEqual(self.held((BUY, 5, 0, 0, 0, [2]), (SELL, 5, 1, 0, 0, [3]), (BUY, 5, 2, 0, 0, [3])), 10)

    def test_groups(self):
        self.assertEqual(self.held((BUY, 5, 0, 0, 0, [2]), (BUY, 4, 0, 0, 0, [2])), 18)
        self.assertEqual(self.held((BUY, 5, 0, 1, 0, [2]), (BUY, 4, 0, 1, 0, [2])), 10)
        self.assertEqual(self.held((BUY, 5, 0, 1, 0, [2]), (BUY, 4, 0, 1, 0, [2]), (BUY, 4, 2, 0, 0, [1])), 12)
        self.assertEqual(self.held((BUY, 5, 0, 1, 0, [2]), (BUY, 4, 0, 9, 0, [2])), 18)
        self.assertEqual(self.held((SELL, 5, 0, 1, 0, [2]), (SELL, 4, 0, 1, 0, [2])), 0)
        self.assertEqual(self.held((BUY, 5, 0, 1, 0, [2]), (BUY, 4, 0, 0, 0, [2])), 18)

    def test_the_same_group_at_two_desks(self):
        calls = OPEN + [("found", 0, HUGE, 0), ("desk", 1, 0), ("desk", 1, 0), ("block", 1, BUY, 5, 0, 1, 0, [2]),
                        ("block", 2, BUY, 4, 0, 1, 0, [2])]
        self.check(calls, ("need", 1), [0, 18, 18, HUGE, HUGE - 18])

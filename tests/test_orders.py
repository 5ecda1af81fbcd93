"""Desks, and the calls that enter orders, cut them and take them back."""

from itertools import combinations

from helper import BILLION, BUY, HUGE, SELL, HouseTest, last, run
from quarterdesk import records
from quarterdesk.house import reply_to_would
from quarterdesk.ordercalls import enter_block, enter_live, enter_step
from quarterdesk.reading import Call
from quarterdesk.records import Firm, House

OPEN = [("open", -10, 10, 50)]
DESK = OPEN + [("found", 0, 1000, 0), ("desk", 1, 3)]
TWO_DESKS = DESK + [("desk", 1, 3)]


class Desk(HouseTest):
    def test_desk(self):
        self.check_all([
            (("open", -10, 10, 50), [0]),
            (("found", 0, 9, 0), [0, 1]),
            (("desk", 1, 0), [0, 1]),
            (("desk", 1, 7), [0, 2]),
            (("orders", 1), [0, 0]),
            (("hold", 2), [0, 0, 0, 0]),
        ])

    def test_a_stopped_firm_may_have_a_desk(self):
        self.check(DESK + [("stop", 1, 1)], ("desk", 1, 0), [0, 2])

    def test_refused(self):
        self.check_refused(OPEN, ("desk", 1, 0), -5)
        calls = OPEN + [("found", 0, 9, 0)] + [("desk", 1, 0)] * 64
        self.assertEqual(run(calls)[2:], [[0, number] for number in range(1, 65)])
        self.check_refused(calls, ("desk", 1, 0), -8)
        self.check_refused(calls + [("close", 1), ("close", 64)], ("desk", 1, 0), -8)
        self.check_refused(calls, ("desk", 2, 0), -5)

    def test_a_number_is_never_given_again(self):
        self.check(DESK + [("close", 1)], ("desk", 1, 0), [0, 2])
        self.check_refused(DESK + [("close", 1), ("desk", 1, 0)], ("hold", 1), -6)


class Give(HouseTest):
    calls = OPEN + [("found", 0, 50, 0), ("found", 0, 30, 0), ("desk", 1, 0), ("live", 1, BUY, 5, 8),
                    ("payout", 1, 3)]

    def test_give(self):
        self.check(self.calls, ("need", 1), [0, 43, 43, 50, 7])
        self.check_refused(self.calls, ("give", 1, 2), -15)
        calls = self.calls + [("cut", 1, 6), ("give", 1, 2)]
        self.assertEqual(last(calls), [0])
        self.check(calls, ("need", 1), [0, 3, 3, 50, 47])
        self.check(calls, ("need", 2), [0, 30, 30, 30, 0])
        self.check(calls, ("orders", 1), [0, 1, 1])
        self.check(calls + [("fill", 1, 6, 5)], ("firm", 2), [0, 0, 0, 30, 0, 1])
        self.check(calls + [("fill", 1, 6, 5)], ("firm", 1), [0, 0, 0, 3, 0, 1])

    def test_to_the_firm_that_has_it(self):
        self.check(self.calls, ("give", 1, 1), [0])

    def test_no_room_above_where_the_old_firm_is_fenced(self):
        # The old firm's need is below 0, so that the firm above it sees the desk only at its new firm.
        calls = [("open", -10, 10, 100), ("found", 0, 7, 0), ("found", 1, 99, 1), ("found", 1, 99, 0), ("desk", 2, 0),
                 ("charge", 2, -50), ("live", 1, BUY, 4, 2)]
        self.check(calls, ("need", 1), [0, 0, 0, 7, 7])
        self.check_refused(calls, ("give", 1, 3), -15)
        self.check(calls + [("line", 1, 8)], ("give", 1, 3), [0])
        self.check(calls + [("fence", 2, 0)], ("give", 1, 3), [0])

    def test_refused(self):
        self.check_refused(self.calls, ("give", 2, 2), -6)
        self.check_refused(self.calls, ("give", 1, 3), -5)
        self.check_refused(self.calls, ("give", 2, 3), -6)


class Close(HouseTest):
    def test_close(self):
        self.check(DESK, ("close", 1), [0])
        for call in [("give", 1, 1), ("close", 1), ("step", 1, 0, BUY, 0, 1), ("live", 1, BUY, 0, 1),
                     ("block", 1, BUY, 0, 0, 0, 0, [1]), ("worst", 1, 0), ("at", 1, 0, 0), ("most", 1, 0, BUY, 0),
                     ("hold", 1), ("orders", 1)]:
            self.check_refused(DESK + [("close", 1)], call, -6)

    def test_refused(self):
        self.check_refused(DESK, ("close", 2), -6)
        for order in [("step", 1, 0, BUY, 0, 1), ("live", 1, BUY, 0, 1), ("block", 1, BUY, 0, 0, 0, 0, [1])]:
            self.check_refused(DESK + [order], ("close", 1), -13)
            self.check(DESK + [order, ("cancel", 1)], ("close", 1), [0])
            self.check(TWO_DESKS + [order], ("close", 2), [0])


class Enter(HouseTest):
    def test_step(self):
        self.check_all([
            (("open", -10, 10, 50), [0]),
            (("found", 0, 1000, 0), [0, 1]),
            (("desk", 1, 3), [0, 1]),
            (("step", 1, 7, BUY, 5, 4), [0, 1]),
            (("step", 1, 99, SELL, -10, 1), [0, 2]),
            (("order", 1), [0, 1, 1, 0, 5, 4, 7, 0, 0]),
            (("order", 2), [0, 1, 1, 1, -10, 1, 99, 0, 0]),
            (("hold", 1), [0, 30, 0, 0]),
            (("need", 1), [0, 30, 30, 1000, 970]),
        ])

    def test_live(self):
        self.check_all([
            (("open", -10, 10, 50), [0]),
            (("found", 0, 1000, 0), [0, 1]),
            (("desk", 1, 3), [0, 1]),
            (("live", 1, BUY, 5, 4), [0, 1]),
            (("live", 1, SELL, 5, 4), [0, 2]),
            (("live", 1, BUY, -5, 4), [0, 3]),
            (("live", 1, SELL, -5, 3), [0, 4]),
            (("order", 1), [0, 2, 1, 0, 5, 4, 0, 0, 0]),
            (("order", 4), [0, 2, 1, 1, -5, 3, 0, 0, 0]),
            (("hold", 1), [0, 0, 35, 0]),
        ])

    def test_block(self):
        self.check_all([
            (("open", -10, 10, 50), [0]),
            (("found", 0, 1000, 0), [0, 1]),
            (("desk", 1, 3), [0, 1]),
            (("block", 1, BUY, 5, 0, 9, 97, [1, 0, 3]), [0, 1]),
            (("block", 1, SELL, -2, 1, 0, 0, [6]), [0, 2]),
            (("block", 1, BUY, 10, 0, 0, 4, [0, 0, 7, 0]), [0, 3]),
            (("order", 1), [0, 3, 1, 0, 5, 4, 97, 0, 9]),
            (("order", 2), [0, 3, 1, 1, -2, 6, 0, 1, 0]),
            (("order", 3), [0, 3, 1, 0, 10, 7, 4, 0, 0]),
            (("hold", 1), [0, 0, 0, 102]),
        ])

    def test_all_kinds_share_one_count_and_no_number_is_given_again(self):
        calls = TWO_DESKS + [
            ("step", 1, 0, BUY, 1, 1), ("live", 2, BUY, 1, 1), ("block", 1, BUY, 1, 0, 0, 0, [1]),
            ("cancel", 3), ("cancel", 1), ("step", 2, 0, BUY, 11, 1), ("step", 1, 0, BUY, 1, 1), ("fill", 2, 1, 1),
            ("live", 1, BUY, 1, 1),
        ]
        self.assertEqual(run(calls)[4:], [[0, 1], [0, 2], [0, 3], [0, 1], [0, 1], [-11], [0, 4], [0, 1], [0, 5]])
        self.check(calls, ("orders", 1), [0, 2, 4, 5])
        self.check(calls, ("orders", 2), [0, 0])

    def test_greatest_values(self):
        wide = [("open", -1000000, 1000000, 0), ("found", 0, HUGE, 0), ("desk", 1, 0)]
        for quarter in (0, 99):
            for price in (-1000000, 1000000):
                for side in (BUY, SELL):
                    for amount in (1, BILLION):
                        self.check(wide, ("step", 1, quarter, side, price, amount), [0, 1])
                        self.check(wide, ("live", 1, side, price, amount), [0, 1])
                        self.check(wide, ("block", 1, side, price, 0, 0, quarter, [amount]), [0, 1])
        self.check(wide + [("step", 1, 0, BUY, 1000000, BILLION)], ("hold", 1), [0, 10**15, 0, 0])
        self.check(wide + [("step", 1, 0, SELL, -1000000, BILLION)], ("hold", 1), [0, 10**15, 0, 0])
        self.check(wide + [("step", 1, 0, SELL, 1000000, BILLION)], ("hold", 1), [0, 0, 0, 0])
        whole_day = ("block", 1, BUY, 1000000, 0, 0, 0, [BILLION] * 100)
        self.check(wide + [whole_day] * 10, ("need", 1), [0, HUGE, HUGE, HUGE, 0])
        self.check_refused(wide + [whole_day] * 10, ("live", 1, BUY, 1, 1), -15)

    def test_prices_low_and_high(self):
        for price, reply in ((-11, [-11]), (-10, [0, 1]), (10, [0, 1]), (11, [-11])):
            for side in (BUY, SELL):
                self.check(DESK, ("step", 1, 0, side, price, 1), reply)
                self.check(DESK, ("live", 1, side, price, 1), reply)
                self.check(DESK, ("block", 1, side, price, 0, 0, 0, [1]), reply)

    def test_blocks_of_depth_eight(self):
        chain = DESK + [("block", 1, BUY, 1, parent, 0, 0, [1]) for parent in range(8)]
        self.assertEqual(last(chain), [0, 8])
        self.check_refused(chain, ("block", 1, BUY, 1, 8, 0, 0, [1]), -12)
        self.check(chain, ("block", 1, BUY, 1, 7, 0, 0, [1]), [0, 9])

    def test_groups(self):
        for group in range(10):
            self.check(DESK, ("block", 1, BUY, 1, 0, group, 0, [1]), [0, 1])
            self.check(DESK + [("block", 1, BUY, 1, 0, group, 0, [1])], ("block", 1, BUY, 1, 1, 0, 0, [1]), [0, 2])
            if group > 0:
                self.check_refused(DESK + [("block", 1, BUY, 1, 0, group, 0, [1])],
                                   ("block", 1, BUY, 1, 1, group, 0, [1]), -12)

    def test_stopped_above(self):
        calls = OPEN + [("found", 0, 99, 0), ("found", 1, 99, 0), ("found", 2, 99, 0), ("desk", 2, 0)]
        for order in [("step", 1, 0, BUY, 1, 1), ("live", 1, BUY, 1, 1), ("block", 1, BUY, 1, 0, 0, 0, [1])]:
            self.check_refused(calls + [("stop", 1, 1)], order, -10)
            self.check_refused(calls + [("stop", 2, 1)], order, -10)
            self.check(calls + [("stop", 3, 1)], order, [0, 1])
            self.check(calls + [("stop", 1, 1), ("stop", 1, 0)], order, [0, 1])

    def test_sixty_four_orders(self):
        calls = TWO_DESKS + [("live", 1, BUY, 0, 1), ("step", 2, 0, BUY, 0, 1)] * 32
        self.assertEqual(last(calls), [0, 64])
        for order in [("step", 1, 0, BUY, 1, 1), ("live", 1, BUY, 1, 1), ("block", 1, BUY, 1, 0, 0, 0, [1])]:
            self.check_refused(calls, order, -8)
            self.check(calls + [("cancel", 5)], order, [0, 65])


class OrdersNumbered(HouseTest):
    """More orders than a list of calls can number, so the house is made by hand."""

    def house(self, numbered):
        house = House()
        house.opened = True
        house.firms[1] = Firm(0, 1000, 0)
        house.desks[1] = records.Desk(1, 0)
        house.orders_numbered = numbered
        return house

    def test_the_last_number(self):
        for enter, place, numbers, rows in [
            (enter_step, 8, [1, 0, BUY, 0, 1], []),
            (enter_live, 9, [1, BUY, 0, 1], []),
            (enter_block, 10, [1, BUY, 0, 0, 0, 0], [[1]]),
        ]:
            self.assertEqual(enter(self.house(BILLION - 1), numbers, rows), [0, BILLION])
            self.assertEqual(enter(self.house(BILLION), numbers, rows), [-8])
            asked = Call(31, [place] + numbers, rows)
            self.assertEqual(reply_to_would(self.house(BILLION - 1), self.house(BILLION - 1), asked), [0, 0, 0])
            self.assertEqual(reply_to_would(self.house(BILLION), self.house(BILLION), asked), [0, -8, 0])


# The faults of an order that's to be entered, in the order in which they're looked at.
ENTRY_FAULTS = {"desk": -6, "parent": -7, "unfit": -12, "stopped": -10, "price": -11, "full": -8, "room": -15}

# How a block's parent is unfit: the parent's number in the house below, and the group told.
UNFIT_PARENTS = {"a step": (1, 0), "a live order": (2, 0), "of another desk": (3, 0), "too deep": (11, 0),
                 "a group": (4, 7)}


def entry(kind, faults, unfit="a step"):
    line = 0 if "room" in faults else 1000
    setup = OPEN + [("found", 0, line, 0), ("desk", 1, 0), ("desk", 1, 0), ("step", 1, 0, BUY, 0, 1),
                    ("live", 1, BUY, 0, 1), ("block", 2, BUY, 0, 0, 0, 0, [1]), ("block", 1, BUY, 0, 0, 0, 0, [1])]
    setup += [("block", 1, BUY, 0, parent, 0, 0, [1]) for parent in range(4, 11)]
    if "full" in faults:
        setup += [("live", 2, BUY, 0, 1)] * 53
    if "stopped" in faults:
        setup.append(("stop", 1, 1))
    desk = 3 if "desk" in faults else 1
    price = 11 if "price" in faults else 5
    parent, group = (0, 0)
    if "unfit" in faults:
        parent, group = UNFIT_PARENTS[unfit]
    if "parent" in faults:
        parent = 99
    calls = {
        "step": ("step", desk, 9, BUY, price, 2),
        "live": ("live", desk, BUY, price, 2),
        "block": ("block", desk, BUY, price, parent, group, 9, [1, 1]),
    }
    return setup, calls[kind]


class EntryFaults(HouseTest):
    def check_faults(self, kind, faults, unfit="a step"):
        # A desk that isn't there has no firm that could be stopped or want room.
        if "desk" in faults and ("stopped" in faults or "room" in faults):
            return
        first = next((number for fault, number in ENTRY_FAULTS.items() if fault in faults), None)
        setup, call = entry(kind, faults, unfit)
        with self.subTest(kind=kind, faults=faults, unfit=unfit):
            if first is None:
                self.assertEqual(last(setup + [call])[0], 0)
            else:
                self.check_refused(setup, call, first)

    def test_steps_and_live_orders(self):
        names = ["desk", "stopped", "price", "full", "room"]
        for kind in ("step", "live"):
            for count in range(len(names) + 1):
                for faults in combinations(names, count):
                    self.check_faults(kind, faults)

    def test_blocks(self):
        for count in range(4):
            for faults in combinations(ENTRY_FAULTS, count):
                for unfit in UNFIT_PARENTS if "unfit" in faults else ["a step"]:
                    self.check_faults("block", faults, unfit)

    def test_a_parent_that_is_fit(self):
        setup, call = entry("block", ())
        for parent in range(4, 11):
            self.check(setup, ("block", 1, SELL, 5, parent, 0, 0, [1]), [0, 12])


class Cancel(HouseTest):
    family = DESK + [
        ("block", 1, BUY, 1, 0, 0, 0, [1]), ("block", 1, BUY, 1, 1, 0, 0, [1]), ("block", 1, BUY, 1, 1, 0, 0, [1]),
        ("block", 1, BUY, 1, 2, 0, 0, [1]), ("step", 1, 0, BUY, 1, 1), ("live", 1, BUY, 1, 1),
        ("block", 1, BUY, 1, 4, 0, 0, [1]),
    ]

    def test_cancel(self):
        for order, went, left in [
            (1, 5, [5, 6]), (2, 3, [1, 3, 5, 6]), (3, 1, [1, 2, 4, 5, 6, 7]), (4, 2, [1, 2, 3, 5, 6]),
            (5, 1, [1, 2, 3, 4, 6, 7]), (6, 1, [1, 2, 3, 4, 5, 7]), (7, 1, [1, 2, 3, 4, 5, 6]),
        ]:
            self.check(self.family, ("cancel", order), [0, went])
            self.check(self.family + [("cancel", order)], ("orders", 1), [0, len(left)] + left)
            self.check_refused(self.family + [("cancel", order)], ("cancel", order), -7)

    def test_cancel_of_a_stopped_firm(self):
        self.check(self.family + [("stop", 1, 1)], ("cancel", 1), [0, 5])

    def test_refused(self):
        self.check_refused(self.family, ("cancel", 8), -7)
        self.check_refused(self.family, ("cancel", BILLION), -7)

    def test_no_room(self):
        # Above its own price the selling step brings what the buying one costs there.
        offset = [("open", 2, 3, 0), ("found", 0, 6, 0), ("desk", 1, 0), ("step", 1, 0, SELL, 2, 2),
                  ("step", 1, 0, BUY, 3, 2), ("charge", 1, 2)]
        self.check(offset, ("need", 1), [0, 6, 6, 6, 0])
        self.check_refused(offset, ("cancel", 1), -15)
        self.check(offset, ("cancel", 2), [0, 1])

    def test_no_room_without_the_child(self):
        # No block ever lowers what's held, as whole sets may do without it: only steps can.
        calls = DESK + [("block", 1, BUY, 5, 0, 0, 0, [4]), ("block", 1, SELL, 5, 1, 0, 0, [4]), ("line", 1, 20)]
        self.assertEqual(last(calls), [0])
        self.check(calls, ("cancel", 2), [0, 1])


class Cut(HouseTest):
    calls = DESK + [("step", 1, 4, BUY, 5, 8), ("live", 1, SELL, -5, 8), ("block", 1, BUY, 1, 0, 0, 0, [8])]

    def test_cut(self):
        for order in (1, 2):
            for amount in (1, 7):
                self.check(self.calls, ("cut", order, amount), [0])
        self.check(self.calls + [("cut", 1, 7)], ("order", 1), [0, 1, 1, 0, 5, 7, 4, 0, 0])
        self.check(self.calls + [("cut", 2, 1)], ("order", 2), [0, 2, 1, 1, -5, 1, 0, 0, 0])
        self.check(self.calls + [("cut", 2, 1), ("cut", 1, 7)], ("hold", 1), [0, 35, 5, 8])
        self.check(self.calls + [("stop", 1, 1)], ("cut", 1, 1), [0])

    def test_refused(self):
        self.check_refused(self.calls, ("cut", 4, 1), -7)
        for order in (1, 2):
            self.check_refused(self.calls, ("cut", order, 8), -12)
            self.check_refused(self.calls, ("cut", order, 9), -12)
            self.check_refused(self.calls, ("cut", order, BILLION), -12)
        self.check_refused(self.calls, ("cut", 3, 7), -12)
        self.check_refused(self.calls, ("cut", 3, 9), -12)

    def test_the_place_in_the_order_of_entry_stays(self):
        calls = DESK + [("step", 1, 0, BUY, 5, 8), ("step", 1, 0, BUY, 5, 8), ("cut", 1, 2)]
        self.check(calls, ("settle", 3, 0, 4, [2, 8]), [0, 2, 8, 32])

    def test_no_room(self):
        offset = [("open", 2, 10, 0), ("found", 0, 9, 0), ("desk", 1, 0), ("step", 1, 0, SELL, 2, 2),
                  ("step", 1, 0, BUY, 10, 2)]
        self.check(offset, ("need", 1), [0, 4, 4, 9, 5])
        self.check_refused(offset, ("cut", 1, 1), -15)
        self.check(offset, ("cut", 2, 1), [0])
        self.check(offset + [("line", 1, 10)], ("cut", 1, 1), [0])

    def test_unfit_comes_before_want_of_room(self):
        calls = OPEN + [("found", 0, 20, 0), ("desk", 1, 0), ("live", 1, BUY, 5, 4)]
        self.check_refused(calls, ("cut", 1, 5), -12)

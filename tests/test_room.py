"""Room: who stands in the way of a call, and who doesn't."""

from helper import BUY, HUGE, SELL, HouseTest, last

OPEN = [("open", -10, 10, 100)]


class Room(HouseTest):
    def test_a_firm_far_above_stands_in_the_way(self):
        calls = OPEN + [("found", parent, 20 if parent == 0 else HUGE, 0) for parent in range(8)] + [("desk", 8, 0)]
        for order in [("step", 1, 0, BUY, 7, 3), ("live", 1, BUY, 7, 3), ("block", 1, BUY, 7, 0, 0, 0, [1, 2])]:
            self.check_refused(calls, order, -15)
            self.check(calls + [("line", 1, 21)], order, [0, 1])
        self.check_refused(calls, ("payout", 8, 21), -15)
        self.check(calls, ("payout", 8, 20), [0, 20])

    def test_just_at_the_line(self):
        calls = OPEN + [("found", 0, 20, 0), ("desk", 1, 0)]
        self.check(calls, ("step", 1, 0, BUY, 5, 4), [0, 1])
        self.check(calls, ("live", 1, SELL, -5, 4), [0, 1])
        self.check(calls, ("block", 1, BUY, 5, 0, 0, 0, [4]), [0, 1])
        self.check_refused(calls, ("step", 1, 0, BUY, 7, 3), -15)
        self.check_refused(calls, ("live", 1, SELL, -7, 3), -15)
        self.check_refused(calls, ("block", 1, BUY, 7, 0, 0, 0, [3]), -15)

    def test_a_line_of_0(self):
        calls = OPEN + [("found", 0, 0, 0), ("desk", 1, 0)]
        self.check(calls, ("step", 1, 0, BUY, 0, 4), [0, 1])
        self.check(calls, ("step", 1, 0, SELL, 10, 4), [0, 1])
        self.check(calls, ("live", 1, BUY, -1, 4), [0, 1])
        self.check_refused(calls, ("step", 1, 0, BUY, 1, 1), -15)
        self.check_refused(calls, ("payout", 1, 1), -15)
        self.check(calls + [("charge", 1, -1)], ("payout", 1, 1), [0, 0])

    def test_children_with_a_need_below_0(self):
        for fenced, room in ((0, 50), (1, 20)):
            calls = OPEN + [("found", 0, 20, 0), ("found", 1, 0, fenced), ("charge", 2, -30), ("desk", 1, 0)]
            self.check(calls, ("need", 2), [0, -30, -30, 0, room if room < 30 else 30])
            self.check(calls, ("payout", 1, room), [0, room])
            self.check_refused(calls, ("payout", 1, room + 1), -15)
            self.check(calls, ("live", 1, BUY, 1, room), [0, 1])
            self.check_refused(calls, ("live", 1, BUY, 1, room + 1), -15)
            # The child's own room is the same.
            self.check(calls, ("payout", 2, 30), [0, 0])
            self.check_refused(calls, ("payout", 2, 31), -15)

    def test_fences_at_each_level(self):
        calls = OPEN + [("found", 0, 5, 0), ("found", 1, 100, 1), ("found", 2, 100, 1), ("charge", 3, -40),
                        ("charge", 2, 8)]
        self.check(calls, ("need", 3), [0, -40, -40, 100, -3])
        self.check(calls, ("need", 2), [0, 8, 8, 100, -3])
        self.check(calls, ("need", 1), [0, 0, 8, 5, -3])
        self.check(calls + [("fence", 3, 0)], ("need", 1), [0, 0, 0, 5, 5])
        self.check(calls + [("fence", 3, 0)], ("need", 2), [0, 8, -32, 100, 5])
        self.check(calls + [("fence", 3, 0), ("fence", 2, 0)], ("need", 1), [0, 0, -32, 5, 37])
        self.check(calls, ("payout", 3, 40), [0, 0])
        self.check_refused(calls, ("payout", 3, 41), -15)

    def test_above_its_line_already_and_not_worse(self):
        calls = OPEN + [("found", 0, 20, 0), ("desk", 1, 0), ("step", 1, 0, BUY, 5, 2), ("step", 1, 0, SELL, 5, 2),
                        ("charge", 1, 50)]
        self.check(calls, ("need", 1), [0, 60, 60, 20, -40])
        self.check(calls, ("step", 1, 0, SELL, 5, 1), [0, 3])
        self.check(calls, ("live", 1, SELL, 5, 1), [0, 3])
        self.check(calls, ("block", 1, SELL, 5, 0, 0, 0, [1]), [0, 3])
        self.check(calls, ("cut", 1, 1), [0])
        self.check(calls, ("cancel", 1), [0, 1])
        self.check(calls, ("line", 1, 21), [0])
        self.check(calls, ("line", 1, 20), [0])
        self.check(calls, ("fence", 1, 1), [0])
        self.check(calls, ("move", 1, 0), [0])
        self.check(calls, ("give", 1, 1), [0])
        self.check_refused(calls, ("line", 1, 19), -15)
        self.check_refused(calls, ("step", 1, 0, BUY, 5, 1), -15)
        self.check_refused(calls, ("live", 1, BUY, 1, 1), -15)
        self.check_refused(calls, ("payout", 1, 1), -15)
        self.check(calls, ("payin", 1, 1), [0, 49])

    def test_another_firm_above_its_line_is_not_in_the_way(self):
        calls = OPEN + [("found", 0, 20, 0), ("found", 0, 20, 0), ("desk", 2, 0), ("charge", 1, 50)]
        self.check(calls, ("step", 1, 0, BUY, 5, 4), [0, 1])
        self.check(calls, ("payout", 2, 20), [0, 20])

    def test_a_child_above_its_line_is_not_in_its_parents_way(self):
        calls = OPEN + [("found", 0, 90, 0), ("found", 1, 20, 0), ("desk", 1, 0), ("charge", 2, 50)]
        self.check(calls, ("step", 1, 0, BUY, 10, 4), [0, 1])
        self.check_refused(calls, ("step", 1, 0, BUY, 10, 5), -15)

    def test_a_parent_above_its_line_is_in_the_way(self):
        calls = OPEN + [("found", 0, 20, 0), ("found", 1, 90, 0), ("desk", 2, 0), ("charge", 1, 50)]
        self.check_refused(calls, ("step", 1, 0, BUY, 1, 1), -15)
        self.check(calls, ("step", 1, 0, BUY, 0, 1), [0, 1])
        # Behind a fence the growth isn't seen as long as the need stays below 0.
        fenced = calls + [("fence", 2, 1), ("charge", 2, -10)]
        self.check(fenced, ("step", 1, 0, BUY, 1, 10), [0, 1])
        self.check_refused(fenced, ("step", 1, 0, BUY, 1, 11), -15)

    def test_line_below_the_need(self):
        calls = OPEN + [("found", 0, 20, 0), ("desk", 1, 0), ("live", 1, BUY, 5, 3)]
        self.check_refused(calls, ("line", 1, 14), -15)
        self.check(calls, ("line", 1, 15), [0])
        self.check(calls + [("charge", 1, -15)], ("line", 1, 0), [0])

    def test_cancel_cut_fence_and_give(self):
        calls = OPEN + [("found", 0, 30, 0), ("desk", 1, 0), ("step", 1, 0, SELL, -10, 1), ("step", 1, 0, BUY, 10, 4)]
        self.check(calls, ("worst", 1, 0), [0, 30, 10])
        self.check_refused(calls, ("cancel", 1), -15)
        self.check(calls + [("cut", 2, 3)], ("cancel", 1), [0, 1])
        calls = OPEN + [("found", 0, 30, 0), ("desk", 1, 0), ("step", 1, 0, SELL, -3, 2), ("step", 1, 0, BUY, 10, 5)]
        self.check(calls, ("worst", 1, 0), [0, 30, 10])
        self.check_refused(calls, ("cut", 1, 1), -15)
        self.check(calls + [("line", 1, 40)], ("cut", 1, 1), [0])
        calls = OPEN + [("found", 0, 0, 0), ("found", 1, 0, 0), ("charge", 2, -5), ("charge", 1, 1)]
        self.check_refused(calls, ("fence", 2, 1), -15)
        self.check(calls + [("line", 1, 1)], ("fence", 2, 1), [0])
        calls = OPEN + [("found", 0, 20, 0), ("found", 0, 10, 0), ("desk", 1, 0), ("live", 1, BUY, 1, 11)]
        self.check_refused(calls, ("give", 1, 2), -15)
        self.check(calls + [("cut", 1, 10)], ("give", 1, 2), [0])

    def test_calls_that_are_never_refused_for_want_of_room(self):
        calls = OPEN + [("found", 0, 0, 0), ("desk", 1, 0), ("live", 1, BUY, -1, 5), ("charge", 1, 9)]
        self.check(calls, ("charge", 1, 9), [0, 18])
        self.check(calls, ("found", 1, 0, 0), [0, 2])
        self.check(calls, ("desk", 1, 0), [0, 2])
        self.check(calls, ("fill", 1, 5, -1), [0, -5])
        self.check(calls, ("stop", 1, 1), [0])

    def test_counts(self):
        for counts, room in ((0, 20), (50, 21), (100, 23)):
            calls = [("open", -10, 10, counts), ("found", 0, 20, 0), ("desk", 1, 0), ("payin", 1, 3)]
            self.check(calls, ("live", 1, BUY, 1, room), [0, 1])
            self.check_refused(calls, ("live", 1, BUY, 1, room + 1), -15)
            self.assertEqual(last(calls + [("most", 1, 0, BUY, 1)]), [0, room])

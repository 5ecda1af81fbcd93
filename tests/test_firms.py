"""The calls that found, change, pay and dismiss firms: accepted, at the edges, and refused."""

from helper import HUGE, MONEY, HouseTest, last, owing, run

OPEN = [("open", -10, 10, 50)]


def firms_in_a_chain(count, line=0):
    return [("found", parent, line, 0) for parent in range(count)]


class Open(HouseTest):
    def test_open(self):
        self.check_all([
            (("open", -1000000, 1000000, 0), [0]),
            (("tree",), [0, 0]),
            (("short",), [0, 0]),
        ])

    def test_low_may_be_high(self):
        for price in (-1000000, -3, 0, 1000000):
            calls = [("open", price, price, 100), ("found", 0, HUGE, 0), ("desk", 1, 0)]
            self.check(calls, ("worst", 1, 0), [0, 0, price])
            self.check(calls, ("at", 1, 0, price), [0, 0])
            if price < 1000000:
                self.check_refused(calls, ("at", 1, 0, price + 1), -11)
            if price > -1000000:
                self.check_refused(calls, ("at", 1, 0, price - 1), -11)

    def test_refused(self):
        self.check([], ("open", 5, 4, 0), [-4])
        self.check([("open", 5, 4, 0)], ("open", 4, 5, 0), [0])
        self.check_refused(OPEN, ("open", -10, 10, 50), -3)
        self.check_refused(OPEN, ("open", 5, 4, 0), -3)
        self.assertEqual(run(OPEN + [("open", 0, 1, 0), ("found", 0, HUGE, 0), ("desk", 1, 0), ("worst", 1, 0)])[-1],
                         [0, 0, -10])


class Found(HouseTest):
    def test_found(self):
        self.check_all([
            (("open", -10, 10, 50), [0]),
            (("found", 0, 7, 0), [0, 1]),
            (("found", 1, HUGE, 1), [0, 2]),
            (("found", 0, 0, 1), [0, 3]),
            (("firm", 1), [0, 0, 0, 0, 0, 1]),
            (("firm", 2), [0, 1, 1, 0, 0, 2]),
            (("firm", 3), [0, 0, 1, 0, 0, 1]),
            (("need", 1), [0, 0, 0, 7, 7]),
            (("need", 2), [0, 0, 0, HUGE, 7]),
            (("need", 3), [0, 0, 0, 0, 0]),
        ])

    def test_depth_of_eight(self):
        calls = OPEN + firms_in_a_chain(8)
        self.check(calls, ("firm", 8), [0, 7, 0, 0, 0, 8])
        self.check_refused(calls, ("found", 8, 0, 0), -9)
        self.check(calls, ("found", 7, 0, 0), [0, 9])

    def test_parent_is_missing(self):
        self.check_refused(OPEN, ("found", 1, 0, 0), -5)
        self.check_refused(OPEN + [("found", 0, 0, 0)], ("found", 2, 0, 0), -5)
        self.check_refused(OPEN + [("found", 0, 0, 0), ("leave", 1)], ("found", 1, 0, 0), -5)

    def test_sixty_four_firms(self):
        calls = OPEN + [("found", 0, 0, 0)] * 64
        self.assertEqual(run(calls)[1:], [[0, number] for number in range(1, 65)])
        self.check_refused(calls, ("found", 0, 0, 0), -8)
        self.check_refused(calls[:-1] + [("leave", 5), ("found", 0, 0, 0)], ("found", 0, 0, 0), -8)
        self.check_refused(calls + [("leave", 64), ("leave", 1)], ("found", 0, 0, 0), -8)

    def test_order_of_refusals(self):
        self.check_refused(OPEN + [("found", 0, 0, 0)] * 64 + [("leave", 9)], ("found", 9, 0, 0), -5)
        self.check_refused(OPEN + firms_in_a_chain(8) + [("found", 0, 0, 0)] * 56, ("found", 8, 0, 0), -8)

    def test_a_number_is_never_given_again(self):
        self.check(OPEN + [("found", 0, 0, 0)] * 2 + [("leave", 2)], ("found", 0, 0, 0), [0, 3])
        self.check_refused(OPEN + [("found", 0, 0, 0)] * 2 + [("leave", 2), ("found", 0, 0, 0)], ("firm", 2), -5)


class Line(HouseTest):
    def test_line(self):
        calls = OPEN + [("found", 0, 7, 0)]
        self.check(calls, ("line", 1, 0), [0])
        for line in (0, 7, 8, HUGE):
            self.assertEqual(run(calls + [("line", 1, line), ("need", 1)])[-2:], [[0], [0, 0, 0, line, line]])

    def test_refused(self):
        self.check_refused(OPEN, ("line", 1, 7), -5)
        needy = OPEN + [("found", 0, 7, 0), ("charge", 1, 5)]
        self.check_refused(needy, ("line", 1, 4), -15)
        self.check(needy, ("line", 1, 5), [0])

    def test_above_its_line_already(self):
        needy = OPEN + [("found", 0, 7, 0), ("charge", 1, 20)]
        self.check_refused(needy, ("line", 1, 6), -15)
        self.check(needy, ("line", 1, 7), [0])
        self.check(needy, ("line", 1, 8), [0])
        self.check(needy + [("line", 1, 8)], ("need", 1), [0, 20, 20, 8, -12])

    def test_another_firm_above_its_line_is_not_in_the_way(self):
        calls = OPEN + [("found", 0, 7, 0), ("found", 0, 9, 0), ("charge", 1, 20)]
        self.check(calls, ("line", 2, 0), [0])


class Fence(HouseTest):
    def test_fence(self):
        calls = OPEN + [("found", 0, 100, 0), ("found", 1, 100, 0), ("charge", 2, -40)]
        self.check(calls, ("need", 1), [0, 0, -20, 100, 120])
        fenced = calls + [("fence", 2, 1)]
        self.assertEqual(last(fenced), [0])
        self.check(fenced, ("need", 1), [0, 0, 0, 100, 100])
        self.check(fenced, ("need", 2), [0, -20, -20, 100, 100])
        self.check(fenced, ("firm", 2), [0, 1, 1, -40, 0, 2])
        self.check(fenced + [("fence", 2, 0)], ("need", 1), [0, 0, -20, 100, 120])
        self.check(fenced, ("fence", 2, 1), [0])

    def test_refused(self):
        self.check_refused(OPEN, ("fence", 1, 0), -5)
        calls = OPEN + [("found", 0, 9, 0), ("found", 1, 0, 0), ("charge", 2, -40), ("charge", 1, 25)]
        self.check(calls, ("need", 1), [0, 25, 5, 9, 4])
        self.check_refused(calls, ("fence", 2, 1), -15)
        self.check(calls, ("fence", 2, 0), [0])
        self.check(calls, ("fence", 1, 1), [0])

    def test_fence_of_a_positive_need_passes_all_on(self):
        calls = OPEN + [("found", 0, 9, 0), ("found", 1, 100, 0), ("charge", 2, 8)]
        self.check(calls + [("fence", 2, 1)], ("need", 1), [0, 0, 8, 9, 1])


class Move(HouseTest):
    def test_move(self):
        calls = OPEN + [("found", 0, 9, 0), ("found", 1, 9, 0), ("found", 2, 9, 0), ("found", 0, 9, 0),
                        ("charge", 3, 4)]
        self.check(calls, ("need", 1), [0, 0, 4, 9, 5])
        moved = calls + [("move", 2, 4)]
        self.assertEqual(last(moved), [0])
        self.check(moved, ("tree",), [0, 4, 1, 1, 4, 1, 2, 2, 3, 3])
        self.check(moved, ("need", 1), [0, 0, 0, 9, 9])
        self.check(moved, ("need", 4), [0, 0, 4, 9, 5])
        alone = moved + [("move", 2, 0)]
        self.assertEqual(last(alone), [0])
        self.check(alone, ("tree",), [0, 4, 1, 1, 2, 1, 3, 2, 4, 1])
        self.check(alone, ("firm", 2), [0, 0, 0, 0, 0, 1])
        self.check(alone, ("need", 4), [0, 0, 0, 9, 9])

    def test_where_it_is_already(self):
        calls = OPEN + firms_in_a_chain(8)
        self.check(calls, ("move", 8, 7), [0])
        self.check(calls, ("move", 1, 0), [0])
        self.check(calls, ("move", 2, 1), [0])

    def test_firm_or_parent_is_missing(self):
        one = OPEN + [("found", 0, 9, 0)]
        self.check_refused(one, ("move", 2, 1), -5)
        self.check_refused(one, ("move", 1, 2), -5)
        self.check_refused(one, ("move", 2, 0), -5)
        self.check_refused(one, ("move", 2, 2), -5)

    def test_below_itself(self):
        calls = OPEN + firms_in_a_chain(4)
        self.check_refused(calls, ("move", 2, 2), -9)
        self.check_refused(calls, ("move", 2, 3), -9)
        self.check_refused(calls, ("move", 2, 4), -9)
        self.check_refused(calls, ("move", 1, 1), -9)
        self.check_refused(calls, ("move", 1, 4), -9)

    def test_depth(self):
        calls = OPEN + firms_in_a_chain(6) + [("found", 0, 0, 0), ("found", 7, 0, 0), ("found", 8, 0, 0)]
        self.check_refused(calls, ("move", 7, 6), -9)
        self.check(calls, ("move", 7, 5), [0])
        self.check(calls + [("move", 7, 5)], ("firm", 9), [0, 8, 0, 0, 0, 8])
        self.check(calls, ("move", 8, 6), [0])
        self.check(calls, ("move", 9, 6), [0])
        self.check_refused(calls + [("found", 9, 0, 0)], ("move", 8, 6), -9)

    def test_no_room(self):
        calls = OPEN + [("found", 0, 3, 0), ("found", 0, 9, 0), ("charge", 2, 4)]
        self.check_refused(calls, ("move", 2, 1), -15)
        self.check(calls + [("line", 1, 4)], ("move", 2, 1), [0])

    def test_no_room_where_it_goes_from(self):
        calls = OPEN + [("found", 0, 0, 0), ("found", 1, 9, 0), ("charge", 2, -4), ("charge", 1, 1)]
        self.check(calls, ("need", 1), [0, 1, -1, 0, 1])
        self.check_refused(calls, ("move", 2, 0), -15)
        self.check(calls + [("line", 1, 1)], ("move", 2, 0), [0])

    def test_order_of_refusals(self):
        chain = OPEN + firms_in_a_chain(8, 3) + [("found", 0, 9, 0), ("charge", 9, 4)]
        self.check_refused(chain, ("move", 9, 8), -9)
        self.check_refused(chain, ("move", 9, 7), -15)
        self.check_refused(chain, ("move", 11, 11), -5)


class Owing(HouseTest):
    one = OPEN + [("found", 0, 9, 0)]

    def test_payin(self):
        self.check_all([
            (("open", -10, 10, 50), [0]),
            (("found", 0, 9, 0), [0, 1]),
            (("payin", 1, 1), [0, -1]),
            (("payin", 1, MONEY), [0, -MONEY - 1]),
            (("firm", 1), [0, 0, 0, -MONEY - 1, 0, 1]),
            (("need", 1), [0, -MONEY // 2, -MONEY // 2, 9, MONEY // 2 + 9]),
        ])
        self.check_refused(OPEN, ("payin", 1, 1), -5)
        self.check(self.one + [("stop", 1, 1)], ("payin", 1, 1), [0, -1])

    def test_payout(self):
        self.check_all([
            (("open", -10, 10, 50), [0]),
            (("found", 0, MONEY, 0), [0, 1]),
            (("payout", 1, 1), [0, 1]),
            (("payout", 1, MONEY - 1), [0, MONEY]),
            (("firm", 1), [0, 0, 0, MONEY, 0, 1]),
            (("payout", 1, 1), [-15]),
            (("firm", 1), [0, 0, 0, MONEY, 0, 1]),
        ])
        self.check_refused(OPEN, ("payout", 1, 1), -5)
        self.check_refused(self.one, ("payout", 1, 10), -15)
        self.check(self.one, ("payout", 1, 9), [0, 9])

    def test_payout_of_a_stopped_firm(self):
        calls = OPEN + firms_in_a_chain(3, 9)
        for stopped in (1, 2):
            self.check_refused(calls + [("stop", stopped, 1)], ("payout", 2, 1), -10)
            self.check_refused(calls + [("stop", stopped, 1)], ("payout", 2, 10), -10)
            self.check(calls + [("stop", stopped, 1), ("stop", stopped, 0)], ("payout", 2, 1), [0, 1])
        self.check(calls + [("stop", 3, 1)], ("payout", 2, 1), [0, 1])

    def test_charge(self):
        self.check_all([
            (("open", -10, 10, 50), [0]),
            (("found", 0, 9, 0), [0, 1]),
            (("charge", 1, 0), [0, 0]),
            (("charge", 1, MONEY), [0, MONEY]),
            (("need", 1), [0, MONEY, MONEY, 9, 9 - MONEY]),
            (("charge", 1, -MONEY), [0, 0]),
            (("charge", 1, -MONEY), [0, -MONEY]),
        ])
        self.check_refused(OPEN, ("charge", 1, 1), -5)
        self.check(self.one + [("stop", 1, 1)], ("charge", 1, 1), [0, 1])

    def test_what_owing_weighs(self):
        weights = {
            0: {-1: 0, -99: 0, -1000: 0, 7: 7},
            50: {-1: 0, -2: -1, -3: -1, -4: -2, -5: -2, 0: 0, 3: 3},
            100: {-1: -1, -3: -3, -99: -99, 8: 8},
            33: {-3: 0, -4: -1, -100: -33, -103: -33, -104: -34},
            1: {-99: 0, -100: -1, -199: -1, -200: -2},
            99: {-1: 0, -2: -1, -100: -99, -101: -99, -102: -100},
        }
        for counts, rows in weights.items():
            for owes, weight in rows.items():
                calls = [("open", 0, 0, counts), ("found", 0, 9, 0), ("charge", 1, owes)]
                self.check(calls, ("need", 1), [0, weight, weight, 9, 9 - weight])

    def test_owes_the_most_that_may_be(self):
        for money in (HUGE, -HUGE):
            calls = owing(money)
            self.check(calls, ("firm", 1), [0, 0, 0, money, 0, 1])
            self.assertNotIn([-14], run(calls))

    def test_one_beyond(self):
        self.check_refused(owing(HUGE), ("charge", 1, 1), -14)
        self.check(owing(HUGE), ("charge", 1, -1), [0, HUGE - 1])
        self.check(owing(HUGE - 1), ("charge", 1, 1), [0, HUGE])
        self.check_refused(owing(HUGE - 1), ("charge", 1, 2), -14)
        self.check_refused(owing(HUGE), ("payout", 1, 1), -14)
        self.check(owing(HUGE - 1), ("payout", 1, 1), [0, HUGE])
        self.check_refused(owing(-HUGE), ("charge", 1, -1), -14)
        self.check(owing(-HUGE), ("charge", 1, 1), [0, 1 - HUGE])
        self.check_refused(owing(-HUGE), ("payin", 1, 1), -14)
        self.check(owing(1 - HUGE), ("payin", 1, 1), [0, -HUGE])
        self.check_refused(owing(1 - HUGE), ("payin", 1, 2), -14)

    def test_order_of_refusals_of_payout(self):
        full = owing(HUGE)
        self.check_refused(full + [("stop", 1, 1)], ("payout", 1, 1), -10)
        small = owing(HUGE - 5) + [("line", 1, HUGE - 5)]
        self.check_refused(small, ("payout", 1, 6), -14)
        self.check_refused(small, ("payout", 1, 5), -15)


class Stop(HouseTest):
    def test_stop(self):
        calls = OPEN + [("found", 0, 9, 0), ("found", 1, 9, 0)]
        self.check(calls, ("stop", 1, 1), [0])
        self.check(calls + [("stop", 1, 1)], ("firm", 1), [0, 0, 0, 0, 1, 1])
        self.check(calls + [("stop", 1, 1)], ("firm", 2), [0, 1, 0, 0, 0, 2])
        self.check(calls + [("stop", 1, 1), ("stop", 1, 1)], ("firm", 1), [0, 0, 0, 0, 1, 1])
        self.check(calls + [("stop", 1, 1), ("stop", 1, 0)], ("firm", 1), [0, 0, 0, 0, 0, 1])

    def test_refused(self):
        self.check_refused(OPEN, ("stop", 1, 1), -5)
        self.check_refused(OPEN, ("stop", 1, 0), -5)


class Leave(HouseTest):
    def test_leave(self):
        calls = OPEN + [("found", 0, 9, 0), ("found", 1, 9, 0), ("leave", 2)]
        self.assertEqual(last(calls), [0])
        self.check(calls, ("tree",), [0, 1, 1, 1])
        self.check(calls, ("leave", 1), [0])
        self.check(calls + [("leave", 1)], ("tree",), [0, 0])

    def test_firm_is_missing(self):
        self.check_refused(OPEN, ("leave", 1), -5)
        self.check_refused(OPEN + [("found", 0, 9, 0), ("leave", 1)], ("leave", 1), -5)

    def test_still_in_use(self):
        one = OPEN + [("found", 0, 9, 0)]
        self.check_refused(one + [("found", 1, 9, 0)], ("leave", 1), -13)
        self.check_refused(one + [("desk", 1, 0)], ("leave", 1), -13)
        self.check_refused(one + [("charge", 1, 1)], ("leave", 1), -13)
        self.check_refused(one + [("charge", 1, -1)], ("leave", 1), -13)
        self.check(one + [("charge", 1, -1), ("payout", 1, 1)], ("leave", 1), [0])
        self.check(one + [("desk", 1, 0), ("close", 1)], ("leave", 1), [0])
        self.check(one + [("found", 1, 9, 0), ("move", 2, 0)], ("leave", 1), [0])
        self.check(one + [("stop", 1, 1)], ("leave", 1), [0])
        self.check(one + [("desk", 1, 0), ("found", 0, 0, 0), ("give", 1, 2)], ("leave", 1), [0])

    def test_gone_firm_is_gone_everywhere(self):
        gone = OPEN + [("found", 0, 9, 0), ("found", 0, 9, 0), ("desk", 2, 0), ("leave", 1)]
        for call in [("line", 1, 0), ("fence", 1, 0), ("move", 1, 2), ("move", 2, 1), ("desk", 1, 0), ("give", 1, 1),
                     ("payin", 1, 1), ("payout", 1, 1), ("charge", 1, 1), ("stop", 1, 1), ("need", 1), ("firm", 1)]:
            self.check_refused(gone, call, -5)

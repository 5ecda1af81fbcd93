"""Fill, settle and take."""

from helper import BILLION, BUY, HUGE, SELL, HouseTest, last, owing, run

DESK = [("open", -10, 10, 50), ("found", 0, 1000, 0), ("desk", 1, 3)]


class Fill(HouseTest):
    calls = DESK + [("live", 1, BUY, 5, 8), ("live", 1, SELL, -2, 8), ("step", 1, 0, BUY, 5, 8),
                    ("block", 1, BUY, 5, 0, 0, 0, [8])]

    def test_in_part(self):
        calls = self.calls + [("fill", 1, 3, 4)]
        self.assertEqual(last(calls), [0, 12])
        self.check(calls, ("order", 1), [0, 2, 1, 0, 5, 5, 0, 0, 0])
        self.check(calls, ("firm", 1), [0, 0, 0, 12, 0, 1])
        self.check(calls, ("hold", 1), [0, 40, 41, 40])

    def test_whole(self):
        calls = self.calls + [("fill", 2, 8, -2)]
        self.assertEqual(last(calls), [0, 16])
        self.check_refused(calls, ("order", 2), -7)
        self.check(calls, ("firm", 1), [0, 0, 0, 16, 0, 1])
        self.check(calls, ("orders", 1), [0, 3, 1, 3, 4])
        self.check(self.calls + [("fill", 2, 1, 0), ("fill", 2, 7, 10)], ("firm", 1), [0, 0, 0, -70, 0, 1])

    def test_prices_at_which_it_may_be_done(self):
        for price in range(-10, 11):
            self.check(self.calls, ("fill", 1, 2, price), [0, 2 * price] if price <= 5 else [-12])
            self.check(self.calls, ("fill", 2, 2, price), [0, -2 * price] if price >= -2 else [-12])

    def test_whatever_the_line_and_the_flags(self):
        calls = [("open", -10, 10, 0), ("found", 0, 40, 0), ("desk", 1, 3), ("live", 1, BUY, 5, 8), ("payin", 1, 9),
                 ("payout", 1, 9), ("stop", 1, 1)]
        self.check(calls, ("fill", 1, 8, 5), [0, 40])
        calls = [("open", -10, 10, 0), ("found", 0, 0, 0), ("desk", 1, 3), ("live", 1, SELL, 0, 8), ("charge", 1, 5)]
        self.check(calls, ("fill", 1, 8, 1), [0, -8])

    def test_refused(self):
        self.check_refused(self.calls, ("fill", 5, 1, 0), -7)
        self.check_refused(self.calls, ("fill", 1, 1, -11), -11)
        self.check_refused(self.calls, ("fill", 2, 1, 11), -11)
        self.check_refused(self.calls, ("fill", 3, 1, 0), -12)
        self.check_refused(self.calls, ("fill", 4, 1, 0), -12)
        self.check_refused(self.calls, ("fill", 1, 9, 0), -12)
        self.check_refused(self.calls, ("fill", 1, 8, 6), -12)
        self.check_refused(self.calls, ("fill", 2, 8, -3), -12)
        self.check_refused(self.calls + [("fill", 1, 8, 5)], ("fill", 1, 1, 5), -7)

    def test_owes_too_much(self):
        calls = owing(HUGE - 10) + [("live", 1, BUY, 2, 5)]
        self.check(calls, ("fill", 11, 5, 2), [0, 10])
        self.check_refused(calls + [("charge", 1, 1)], ("fill", 11, 5, 2), -14)
        self.check(calls + [("charge", 1, 1)], ("fill", 11, 4, 2), [0, 8])
        calls = owing(10 - HUGE) + [("live", 1, SELL, 2, 5)]
        self.check(calls, ("fill", 11, 5, 2), [0, -10])
        self.check_refused(calls, ("fill", 11, 5, 3), -14)

    def test_order_of_refusals(self):
        self.check_refused(self.calls, ("fill", 5, 1, 11), -7)
        self.check_refused(self.calls, ("fill", 1, 1, 11), -11)
        self.check_refused(self.calls, ("fill", 3, 1, 11), -11)
        self.check_refused(self.calls, ("fill", 1, 9, 11), -11)
        full = owing(HUGE - 1) + [("charge", 1, -10), ("live", 1, BUY, 2, 5), ("charge", 1, 10)]
        self.check_refused(full, ("fill", 11, 6, 2), -12)
        self.check_refused(full, ("fill", 11, 5, 3), -12)
        self.check_refused(full, ("fill", 11, 5, 2), -14)


class PriceBeforeOwing(HouseTest):
    """-11 is told before -14 where both hold: the price is outside, and so much would be owed."""

    def near_least(self):
        calls = [("open", 0, 1000000, 0), ("found", 0, HUGE, 0), ("desk", 1, 0)]
        for number in range(1, 11):
            calls.append(("block", 1, SELL, 1000000, 0, 0, 0, [BILLION] * 100))
            calls.append(("take", number, [number], [1000000] * 100))
        return calls + [("charge", 1, 3), ("live", 1, BUY, 0, 3), ("step", 1, 0, BUY, 0, 3),
                        ("block", 1, BUY, 0, 0, 0, 0, [3])]

    def test_price_comes_first(self):
        calls = self.near_least()
        self.assertEqual([reply[0] for reply in run(calls)], [0] * len(calls))
        self.check_refused(calls, ("fill", 11, 3, -2), -11)
        self.check_refused(calls, ("settle", 0, 0, -2, [3]), -11)
        self.check_refused(calls, ("take", 13, [13], [-2]), -11)


class Settle(HouseTest):
    # Steps of quarter 4 in zone 3, of two desks of two firms; others in another zone or quarter.
    calls = DESK + [
        ("found", 0, 1000, 0), ("desk", 2, 3), ("desk", 2, 5),
        ("step", 1, 4, BUY, 6, 10), ("step", 2, 4, SELL, 2, 7), ("step", 1, 4, BUY, 5, 3), ("step", 2, 4, BUY, 4, 9),
        ("step", 2, 4, SELL, 5, 8), ("step", 1, 4, SELL, 6, 2),
        ("step", 3, 4, BUY, 6, 10), ("step", 1, 5, BUY, 6, 10), ("live", 1, BUY, 6, 10),
        ("block", 1, BUY, 6, 0, 0, 4, [10]),
    ]

    def test_settle(self):
        calls = self.calls + [("settle", 3, 4, 5, [10, 7, 1, 0, 8, 0])]
        self.assertEqual(last(calls), [0, 6, 50, -35, 5, 0, -40, 0])
        self.check(calls, ("firm", 1), [0, 0, 0, 55, 0, 1])
        self.check(calls, ("firm", 2), [0, 0, 0, -75, 0, 1])
        self.check(calls, ("orders", 1), [0, 3, 8, 9, 10])
        self.check(calls, ("orders", 2), [0, 0])
        self.check(calls, ("orders", 3), [0, 1, 7])

    def test_prices_below_0(self):
        calls = DESK + [("step", 1, 0, BUY, -2, 3), ("step", 1, 0, SELL, -6, 4)]
        self.check(calls, ("settle", 3, 0, -5, [3, 4]), [0, 2, -15, 20])

    def test_no_steps(self):
        self.check(DESK, ("settle", 3, 0, 5, []), [0, 0])
        self.check(self.calls, ("settle", 0, 4, 5, []), [0, 0])
        self.check(self.calls, ("settle", 3, 0, 5, []), [0, 0])
        self.check_changes_nothing(self.calls, ("settle", 3, 0, 5, []))

    def test_zones_and_quarters_at_the_edges(self):
        for zone in (0, 7):
            for quarter in (0, 99):
                calls = [("open", -10, 10, 50), ("found", 0, 1000, 0), ("desk", 1, zone),
                         ("step", 1, quarter, BUY, 10, 2)]
                self.check(calls, ("settle", zone, quarter, -10, [2]), [0, 1, -20])
                self.check(calls, ("settle", 7 - zone, quarter, -10, []), [0, 0])

    def test_at_its_own_price_anything_goes(self):
        for side, sign in ((BUY, 1), (SELL, -1)):
            calls = DESK + [("step", 1, 0, side, 5, 8)]
            for share in range(9):
                self.check(calls, ("settle", 3, 0, 5, [share]), [0, 1, sign * 5 * share])
            self.check_refused(calls, ("settle", 3, 0, 5, [9]), -12)

    def test_where_it_gains_or_loses(self):
        for side, gaining, losing in ((BUY, (-10, 4), (6, 10)), (SELL, (6, 10), (-10, 4))):
            calls = DESK + [("step", 1, 0, side, 5, 8)]
            for price in gaining:
                self.check(calls, ("settle", 3, 0, price, [8]), [0, 1, 8 * price if side == BUY else -8 * price])
                for share in (0, 1, 7, 9):
                    self.check_refused(calls, ("settle", 3, 0, price, [share]), -12)
            for price in losing:
                self.check(calls, ("settle", 3, 0, price, [0]), [0, 1, 0])
                for share in (1, 8, 9):
                    self.check_refused(calls, ("settle", 3, 0, price, [share]), -12)

    def test_count_of_shares(self):
        self.check_refused(self.calls, ("settle", 3, 4, 5, [10, 7, 1, 0, 8]), -12)
        self.check_refused(self.calls, ("settle", 3, 4, 5, [10, 7, 1, 0, 8, 0, 0]), -12)
        self.check_refused(self.calls, ("settle", 3, 4, 5, []), -12)
        self.check_refused(DESK, ("settle", 3, 4, 5, [0]), -12)

    def test_each_share_is_looked_at(self):
        good = [10, 7, 1, 0, 8, 0]
        for place, share in ((0, 9), (1, 6), (2, 4), (3, 1), (4, 9), (5, 2)):
            shares = list(good)
            shares[place] = share
            self.check_refused(self.calls, ("settle", 3, 4, 5, shares), -12)

    def test_price_outside(self):
        self.check_refused(self.calls, ("settle", 3, 4, 11, [0] * 6), -11)
        self.check_refused(self.calls, ("settle", 3, 4, -11, [0] * 6), -11)
        self.check_refused(self.calls, ("settle", 3, 4, 11, []), -11)

    def test_a_given_desk_pays_by_its_new_firm(self):
        calls = DESK + [("found", 0, 1000, 0), ("step", 1, 0, BUY, 5, 8), ("give", 1, 2), ("settle", 3, 0, 4, [8])]
        self.check(calls, ("firm", 1), [0, 0, 0, 0, 0, 1])
        self.check(calls, ("firm", 2), [0, 0, 0, 32, 0, 1])

    def test_whatever_the_line_is(self):
        calls = DESK + [("step", 1, 0, BUY, 5, 8), ("line", 1, 40), ("charge", 1, 30), ("stop", 1, 1)]
        self.check(calls, ("settle", 3, 0, 5, [8]), [0, 1, 40])

    def test_sixty_four_steps(self):
        calls = DESK + [("step", 1, 0, BUY, 1, 1)] * 64
        self.check(calls, ("settle", 3, 0, 0, [1] * 64), [0, 64] + [0] * 64)
        self.check(calls, ("settle", 3, 0, -1, [1] * 64), [0, 64] + [-1] * 64)
        self.check_refused(calls, ("settle", 3, 0, 0, [1] * 63), -12)

    def test_owes_too_much_only_with_all_added(self):
        # Taken alone the first share would lead beyond, but with the second it doesn't.
        calls = owing(HUGE - 20) + [("step", 1, 0, BUY, 10, 2), ("step", 1, 0, SELL, 5, 1), ("charge", 1, 10)]
        self.check(calls, ("settle", 0, 0, 9, [2, 1]), [0, 2, 18, -9])
        self.check_refused(calls, ("settle", 0, 0, 10, [2, 0]), -12)
        self.check_refused(calls + [("charge", 1, 2)], ("settle", 0, 0, 9, [2, 1]), -14)
        self.check_refused(calls + [("charge", 1, 2)], ("settle", 0, 0, 9, [2, 0]), -12)
        self.check_refused(calls, ("settle", 0, 0, 5, [2, 0, 0]), -12)

    def test_owes_too_little(self):
        calls = owing(10 - HUGE) + [("step", 1, 0, SELL, 5, 2)]
        self.check(calls, ("settle", 0, 0, 5, [2]), [0, 1, -10])
        self.check_refused(calls, ("settle", 0, 0, 6, [2]), -14)

    def test_another_firm_owes_too_much(self):
        calls = owing(HUGE - 10) + [("found", 0, 99, 0), ("desk", 2, 0), ("step", 2, 0, BUY, 1, 1),
                                    ("step", 1, 0, BUY, 5, 2), ("charge", 1, 5)]
        self.check_refused(calls, ("settle", 0, 0, 5, [0, 2]), -14)
        self.check(calls, ("settle", 0, 0, 5, [0, 1]), [0, 2, 0, 5])


class Take(HouseTest):
    # A root with two children, one of them with a child; a root by itself; two roots with the group 4.
    calls = DESK + [
        ("block", 1, BUY, 6, 0, 0, 0, [2, 3]), ("block", 1, SELL, 3, 1, 0, 1, [4]),
        ("block", 1, BUY, 2, 1, 0, 0, [5]), ("block", 1, BUY, 8, 3, 0, 0, [10]),
        ("block", 1, BUY, 5, 0, 0, 0, [1]), ("block", 1, BUY, 5, 0, 4, 0, [1]), ("block", 1, BUY, 5, 6, 0, 0, [1]),
        ("block", 1, SELL, 5, 0, 4, 0, [1]), ("step", 1, 0, BUY, 1, 1), ("live", 1, BUY, 1, 1),
    ]

    def test_take(self):
        calls = self.calls + [("take", 1, [1, 2], [4, 5])]
        self.assertEqual(last(calls), [0, 4, 2 * 4 + 3 * 5 - 4 * 5])
        self.check(calls, ("orders", 1), [0, 6, 5, 6, 7, 8, 9, 10])
        self.check(calls, ("firm", 1), [0, 0, 0, 3, 0, 1])

    def test_root_alone(self):
        self.check(self.calls, ("take", 1, [1], [6, 6]), [0, 4, 30])
        self.check(self.calls, ("take", 5, [5], [5]), [0, 1, 5])
        self.check_refused(self.calls, ("take", 5, [5], [6]), -12)
        self.check_refused(self.calls, ("take", 1, [1], [6, 7]), -12)
        self.check(self.calls, ("take", 1, [1], [9, 4]), [0, 4, 30])

    def test_quarters_without_a_price_have_low(self):
        self.check(self.calls, ("take", 1, [1], []), [0, 4, -50])
        self.check(self.calls, ("take", 1, [1], [6]), [0, 4, 12 - 30])
        self.check(self.calls, ("take", 1, [1], [6, 6, 10, 10]), [0, 4, 30])

    def test_what_a_block_owes_at_prices_of_its_quarters(self):
        calls = DESK + [("block", 1, BUY, 10, 0, 0, 97, [2, 0, 5])]
        prices = [10] * 97 + [1, 2, 3]
        self.check(calls, ("take", 1, [1], prices), [0, 1, 2 * 1 + 5 * 3])
        self.check(calls, ("take", 1, [1], prices[:99]), [0, 1, 2 * 1 - 50])
        calls = DESK + [("block", 1, SELL, -10, 0, 0, 97, [2, 0, 5])]
        self.check(calls, ("take", 1, [1], prices), [0, 1, -17])

    def test_a_child_may_carry_its_parent_but_not_the_other_way(self):
        # At 7 block 4 wins 10 and block 3 loses 25; the root wins 2 * (6 - 7) + 3 * (6 + 10).
        self.check_refused(self.calls, ("take", 1, [1, 3, 4], [7]), -12)
        # At 4: block 4 wins 40, block 3 loses 10: together they win.
        self.check(self.calls, ("take", 1, [1, 3, 4], [4, 6]), [0, 4, 2 * 4 + 3 * 6 + 5 * 4 + 10 * 4])
        self.check_refused(self.calls, ("take", 1, [1, 3], [4, 6]), -12)
        # The root loses 3 * 4, and block 2 wins 4 * 7.
        self.check(self.calls, ("take", 1, [1, 2], [6, 10]), [0, 4, 12 + 30 - 40])
        self.check_refused(self.calls, ("take", 1, [1], [6, 10]), -12)

    def test_just_not_losing(self):
        # Block 3 wins 5 * (2 - p), block 4 wins 10 * (8 - p): together nothing at 6.
        self.check(self.calls, ("take", 1, [1, 3, 4], [6]), [0, 4, 12 - 30 + 30 + 60])
        self.check_refused(self.calls, ("take", 1, [1, 3, 4], [7]), -12)

    def test_groups_shut_one_another_out(self):
        calls = self.calls + [("take", 6, [6], [5])]
        self.assertEqual(last(calls), [0, 3, 5])
        self.check(calls, ("orders", 1), [0, 7, 1, 2, 3, 4, 5, 9, 10])
        self.check(self.calls, ("take", 6, [6, 7], [5]), [0, 3, 10])
        self.check(self.calls, ("take", 8, [8], [5]), [0, 3, -5])

    def test_groups_of_other_desks_and_numbers_stay(self):
        calls = DESK + [("desk", 1, 3), ("block", 1, BUY, 5, 0, 4, 0, [1]), ("block", 2, BUY, 5, 0, 4, 0, [1]),
                        ("block", 1, BUY, 5, 0, 5, 0, [1]), ("block", 1, BUY, 5, 0, 0, 0, [1]),
                        ("block", 1, BUY, 5, 0, 4, 0, [1]), ("block", 1, BUY, 5, 5, 0, 0, [1]),
                        ("take", 1, [1], [5])]
        self.assertEqual(last(calls), [0, 3, 5])
        self.check(calls, ("orders", 1), [0, 2, 3, 4])
        self.check(calls, ("orders", 2), [0, 1, 2])

    def test_order_is_missing(self):
        self.check_refused(self.calls, ("take", 11, [11], []), -7)
        self.check_refused(self.calls, ("take", 11, [], [11]), -7)
        self.check_refused(self.calls, ("take", 11, [], []), -7)

    def test_price_outside(self):
        self.check_refused(self.calls, ("take", 5, [5], [11]), -11)
        self.check_refused(self.calls, ("take", 5, [5], [-11]), -11)
        self.check_refused(self.calls, ("take", 5, [5], [0] * 99 + [11]), -11)
        self.check_refused(self.calls, ("take", 5, [], [11]), -11)
        self.check_refused(self.calls, ("take", 9, [9], [11]), -11)

    def test_unfit(self):
        for order in (2, 3, 4, 7, 9, 10):
            self.check_refused(self.calls, ("take", order, [order], []), -12)
        for taken in ([], [2], [2, 1], [1, 1], [1, 2, 2], [1, 4], [1, 5], [1, 6], [1, 9], [1, 10], [1, 11],
                      [1, BILLION], [2, 3], [1, 3, 2]):
            self.check_refused(self.calls, ("take", 1, taken, []), -12)

    def test_a_child_of_another_family(self):
        self.check_refused(self.calls, ("take", 1, [1, 6, 7], []), -12)
        self.check_refused(self.calls, ("take", 5, [5, 6], []), -12)

    def test_owes_too_much(self):
        calls = owing(HUGE - 10) + [("block", 1, BUY, 5, 0, 0, 0, [1, 1])]
        self.check(calls, ("take", 11, [11], [5, 5]), [0, 1, 10])
        self.check_refused(calls + [("charge", 1, 1)], ("take", 11, [11], [5, 5]), -14)
        self.check_refused(calls + [("charge", 1, 1)], ("take", 11, [11], [5, 6]), -12)
        calls = owing(10 - HUGE) + [("block", 1, SELL, 5, 0, 0, 0, [1, 1])]
        self.check(calls, ("take", 11, [11], [5, 5]), [0, 1, -10])
        self.check_refused(calls, ("take", 11, [11], [5, 6]), -14)

    def test_only_the_sum_counts_against_the_most(self):
        calls = owing(HUGE - 30) + [("block", 1, BUY, 5, 0, 0, 0, [6]), ("block", 1, SELL, 5, 11, 0, 1, [6]),
                                    ("charge", 1, 30)]
        self.check(calls, ("take", 11, [11, 12], [5, 5]), [0, 2, 0])
        self.check_refused(calls, ("take", 11, [11], [5, 5]), -14)

    def test_whatever_the_line_is(self):
        calls = DESK + [("block", 1, BUY, 5, 0, 0, 0, [8]), ("line", 1, 40), ("charge", 1, 30), ("stop", 1, 1)]
        self.check(calls, ("take", 1, [1], [5]), [0, 1, 40])

    def test_sixty_four_blocks_taken(self):
        calls = DESK + [("block", 1, BUY, 1, 0, 0, 0, [1])] + [("block", 1, BUY, 1, 1, 0, 0, [1])] * 63
        self.check(calls, ("take", 1, list(range(1, 65)), [1]), [0, 64, 64])
        self.check(calls, ("take", 1, list(range(1, 64)), [0]), [0, 64, 0])

"""would: what another call would be answered, and who stands in its way."""

from helper import BILLION, BUY, HUGE, NAMES, SELL, HouseTest, last, owing, run, would

OPEN = [("open", -10, 10, 100)]

# Firm 2 below firm 1, firm 3 by itself; desk 1 is firm 2's, desk 2 firm 3's. Firms 1 and 2 need 20 + 10 + 9.
HOUSE = OPEN + [
    ("found", 0, 100, 0), ("found", 1, 50, 0), ("found", 0, 30, 0), ("desk", 2, 0), ("desk", 3, 1),
    ("step", 1, 4, BUY, 5, 4), ("live", 1, BUY, 2, 5), ("block", 1, BUY, 3, 0, 0, 0, [2, 1]),
    ("block", 1, SELL, 3, 3, 0, 0, [1]),
]
STOPPED = HOUSE + [("stop", 1, 1)]
FULL = HOUSE + [("live", 2, BUY, 0, 1)] * 60
CHAIN = OPEN + [("found", parent, 9, 0) for parent in range(8)]

# At all prices above 2 the selling step brings what the buying one costs: without it more is held.
OFFSET = [("open", 2, 10, 0), ("found", 0, 9, 0), ("desk", 1, 0), ("step", 1, 0, SELL, 2, 2),
          ("step", 1, 0, BUY, 10, 2)]

MUCH = owing(HUGE - 30) + [("live", 1, BUY, 2, 5), ("step", 1, 0, BUY, 2, 5), ("block", 1, BUY, 2, 0, 0, 0, [5]),
                           ("charge", 1, 21)]
LITTLE = owing(-HUGE)


def entry(name, desk=1, price=5, amount=2):
    return {
        "step": ("step", desk, 0, BUY, price, amount),
        "live": ("live", desk, BUY, price, amount),
        "block": ("block", desk, BUY, price, 0, 0, 0, [amount - 1, 1]),
    }[name]


def entry_cases(name):
    return {
        0: [(HOUSE, entry(name)), (HOUSE, entry(name, amount=11, price=1))],
        -6: [(HOUSE, entry(name, desk=3))],
        -10: [(STOPPED, entry(name))],
        -11: [(HOUSE, entry(name, price=11)), (HOUSE, entry(name, price=-11))],
        -8: [(FULL, entry(name))],
        -15: [(HOUSE, entry(name, price=6), [2, 1]), (HOUSE, entry(name, price=10, amount=8), [1, 19, 2, 69])],
    }


# For each call: cases in which it's accepted (0), and cases of each refusal that is told for it;
# behind the call, where the refusal is -15, the firms in the way and by how much their needs are above their lines.
CASES = {
    "open": {
        0: [([], ("open", -10, 10, 50)), ([("open", 5, 4, 0)], ("open", 4, 4, 0))],
        -3: [(OPEN, ("open", -10, 10, 100)), (HOUSE, ("open", 5, 4, 0))],
        -4: [([], ("open", 5, 4, 0))],
    },
    "found": {
        0: [(OPEN, ("found", 0, 0, 1)), (HOUSE, ("found", 3, HUGE, 0)), (CHAIN, ("found", 7, 0, 0))],
        -5: [(OPEN, ("found", 1, 0, 0)), (HOUSE, ("found", 4, 0, 0))],
        -8: [(OPEN + [("found", 0, 0, 0)] * 64 + [("leave", 7)], ("found", 1, 0, 0))],
        -9: [(CHAIN, ("found", 8, 0, 0))],
    },
    "line": {
        0: [(HOUSE, ("line", 2, 39)), (HOUSE, ("line", 3, 0)), (HOUSE + [("charge", 2, 20)], ("line", 2, 51))],
        -5: [(HOUSE, ("line", 4, 9))],
        -15: [(HOUSE, ("line", 2, 38), [2, 1]), (HOUSE, ("line", 1, 0), [1, 39]),
              (HOUSE + [("charge", 2, 20)], ("line", 2, 49), [2, 10])],
    },
    "fence": {
        0: [(HOUSE, ("fence", 2, 1)), (HOUSE + [("charge", 2, -90)], ("fence", 2, 1))],
        -5: [(HOUSE, ("fence", 4, 0))],
        -15: [(HOUSE + [("found", 1, 0, 0), ("charge", 4, -25), ("line", 1, 20)], ("fence", 4, 1), [1, 19])],
    },
    "move": {
        0: [(HOUSE, ("move", 3, 2)), (HOUSE, ("move", 2, 0)), (HOUSE + [("charge", 3, 11)], ("move", 3, 2))],
        -5: [(HOUSE, ("move", 4, 1)), (HOUSE, ("move", 1, 4)), (HOUSE, ("move", 4, 0))],
        -9: [(HOUSE, ("move", 1, 2)), (HOUSE, ("move", 1, 1)), (CHAIN + [("found", 0, 9, 0)], ("move", 9, 8))],
        -15: [(HOUSE, ("move", 2, 3), [3, 9]), (HOUSE + [("charge", 3, 12)], ("move", 3, 2), [2, 1]),
              (HOUSE + [("charge", 3, 70)], ("move", 3, 2), [1, 9, 2, 59])],
    },
    "desk": {
        0: [(HOUSE, ("desk", 3, 7)), (STOPPED, ("desk", 1, 0))],
        -5: [(HOUSE, ("desk", 4, 0))],
        -8: [(OPEN + [("found", 0, 0, 0)] + [("desk", 1, 0)] * 64 + [("close", 5)], ("desk", 1, 0))],
    },
    "give": {
        0: [(HOUSE, ("give", 1, 1)), (HOUSE, ("give", 2, 2)), (HOUSE + [("line", 3, 39)], ("give", 1, 3))],
        -6: [(HOUSE, ("give", 3, 1)), (HOUSE, ("give", 3, 4))],
        -5: [(HOUSE, ("give", 1, 4))],
        -15: [(HOUSE, ("give", 1, 3), [3, 9])],
    },
    "close": {
        0: [(HOUSE, ("close", 2))],
        -6: [(HOUSE, ("close", 3))],
        -13: [(HOUSE, ("close", 1))],
    },
    "step": entry_cases("step"),
    "live": entry_cases("live"),
    "block": {
        **entry_cases("block"),
        -7: [(HOUSE, ("block", 1, BUY, 5, 5, 0, 0, [1]))],
        -12: [(HOUSE, ("block", 1, BUY, 5, 1, 0, 0, [1])), (HOUSE, ("block", 1, BUY, 5, 2, 0, 0, [1])),
              (HOUSE, ("block", 2, BUY, 5, 3, 0, 0, [1])), (HOUSE, ("block", 1, BUY, 5, 3, 6, 0, [1]))],
    },
    "cancel": {
        0: [(HOUSE, ("cancel", 1)), (HOUSE, ("cancel", 3)), (OFFSET, ("cancel", 2))],
        -7: [(HOUSE, ("cancel", 5)), (HOUSE, ("cancel", BILLION))],
        -15: [(OFFSET, ("cancel", 1), [1, 11])],
    },
    "cut": {
        0: [(HOUSE, ("cut", 1, 3)), (HOUSE, ("cut", 2, 1)), (OFFSET, ("cut", 2, 1))],
        -7: [(HOUSE, ("cut", 5, 1))],
        -12: [(HOUSE, ("cut", 3, 1)), (HOUSE, ("cut", 1, 4)), (HOUSE, ("cut", 2, 6))],
        -15: [(OFFSET, ("cut", 1, 1), [1, 1])],
    },
    "fill": {
        0: [(HOUSE, ("fill", 2, 5, 2)), (HOUSE, ("fill", 2, 1, -10))],
        -7: [(HOUSE, ("fill", 5, 1, 0))],
        -11: [(HOUSE, ("fill", 2, 1, 11)), (HOUSE, ("fill", 2, 1, -11))],
        -12: [(HOUSE, ("fill", 1, 1, 0)), (HOUSE, ("fill", 2, 6, 0)), (HOUSE, ("fill", 2, 1, 3))],
        -14: [(MUCH, ("fill", 11, 5, 2))],
    },
    "settle": {
        0: [(HOUSE, ("settle", 0, 4, 5, [3])), (HOUSE, ("settle", 0, 4, 4, [4])), (HOUSE, ("settle", 1, 4, 0, []))],
        -11: [(HOUSE, ("settle", 0, 4, 11, [0])), (HOUSE, ("settle", 0, 4, -11, [4]))],
        -12: [(HOUSE, ("settle", 0, 4, 4, [3])), (HOUSE, ("settle", 0, 4, 6, [1])), (HOUSE, ("settle", 0, 4, 5, []))],
        -14: [(MUCH, ("settle", 0, 0, 2, [5]))],
    },
    "take": {
        0: [(HOUSE, ("take", 3, [3], [3, 3])), (HOUSE, ("take", 3, [3, 4], [3, 2]))],
        -7: [(HOUSE, ("take", 5, [5], []))],
        -11: [(HOUSE, ("take", 3, [3], [11])), (HOUSE, ("take", 3, [3], [0, -11]))],
        -12: [(HOUSE, ("take", 3, [3], [4, 3])), (HOUSE, ("take", 3, [4], [])), (HOUSE, ("take", 4, [4], [])),
              (HOUSE, ("take", 1, [1], [])), (HOUSE, ("take", 3, [4, 3], [])), (HOUSE, ("take", 3, [3, 5], []))],
        -14: [(MUCH, ("take", 13, [13], [2]))],
    },
    "payin": {
        0: [(HOUSE, ("payin", 2, 7)), (STOPPED, ("payin", 2, 10**15))],
        -5: [(HOUSE, ("payin", 4, 7))],
        -14: [(LITTLE, ("payin", 1, 1))],
    },
    "payout": {
        0: [(HOUSE, ("payout", 2, 11)), (HOUSE, ("payout", 1, 61))],
        -5: [(HOUSE, ("payout", 4, 7))],
        -10: [(STOPPED, ("payout", 2, 1)), (STOPPED, ("payout", 1, 1000))],
        -14: [(owing(HUGE), ("payout", 1, 1))],
        -15: [(HOUSE, ("payout", 2, 12), [2, 1]), (HOUSE, ("payout", 1, 62), [1, 1]),
              (HOUSE, ("payout", 2, 10**15), [1, 10**15 - 61, 2, 10**15 - 11])],
    },
    "charge": {
        0: [(HOUSE, ("charge", 2, 10**15)), (HOUSE, ("charge", 2, -1)), (STOPPED, ("charge", 3, 0))],
        -5: [(HOUSE, ("charge", 4, 7))],
        -14: [(owing(HUGE), ("charge", 1, 1)), (LITTLE, ("charge", 1, -1))],
    },
    "stop": {
        0: [(HOUSE, ("stop", 2, 1)), (STOPPED, ("stop", 1, 0))],
        -5: [(HOUSE, ("stop", 4, 1))],
    },
    "leave": {
        0: [(HOUSE + [("close", 2)], ("leave", 3))],
        -5: [(HOUSE, ("leave", 4))],
        -13: [(HOUSE, ("leave", 1)), (HOUSE, ("leave", 3)), (HOUSE + [("close", 2), ("charge", 3, 1)], ("leave", 3))],
    },
    "need": {0: [(HOUSE, ("need", 2))], -5: [(HOUSE, ("need", 4))]},
    "firm": {0: [(HOUSE, ("firm", 2))], -5: [(HOUSE, ("firm", 4))]},
    "tree": {0: [(HOUSE, ("tree",))]},
    "short": {0: [(HOUSE, ("short",)), (HOUSE + [("charge", 3, 99)], ("short",))]},
    "worst": {0: [(HOUSE, ("worst", 1, 4))], -6: [(HOUSE, ("worst", 3, 4))]},
    "at": {
        0: [(HOUSE, ("at", 1, 4, 10))],
        -6: [(HOUSE, ("at", 3, 4, 11))],
        -11: [(HOUSE, ("at", 1, 4, 11)), (HOUSE, ("at", 1, 4, -11))],
    },
    "most": {
        0: [(HOUSE, ("most", 1, 4, BUY, 10)), (STOPPED, ("most", 1, 4, BUY, 10))],
        -6: [(HOUSE, ("most", 3, 4, BUY, 11))],
        -11: [(HOUSE, ("most", 1, 4, BUY, 11)), (HOUSE, ("most", 1, 4, SELL, -11))],
    },
    "hold": {0: [(HOUSE, ("hold", 1))], -6: [(HOUSE, ("hold", 3))]},
    "order": {0: [(HOUSE, ("order", 4))], -7: [(HOUSE, ("order", 5))]},
    "orders": {0: [(HOUSE, ("orders", 1))], -6: [(HOUSE, ("orders", 3))]},
}

# The further refusals that are told for each call, behind -1 and -2.
REFUSALS = {
    "open": (-3, -4), "found": (-5, -8, -9), "line": (-5, -15), "fence": (-5, -15), "move": (-5, -9, -15),
    "desk": (-5, -8), "give": (-6, -5, -15), "close": (-6, -13), "step": (-6, -10, -11, -8, -15),
    "live": (-6, -10, -11, -8, -15), "block": (-6, -7, -12, -10, -11, -8, -15), "cancel": (-7, -15),
    "cut": (-7, -12, -15), "fill": (-7, -11, -12, -14), "settle": (-11, -12, -14), "take": (-7, -11, -12, -14),
    "payin": (-5, -14), "payout": (-5, -10, -14, -15), "charge": (-5, -14), "stop": (-5,), "leave": (-5, -13),
    "need": (-5,), "firm": (-5,), "tree": (), "short": (), "worst": (-6,), "at": (-6, -11), "most": (-6, -11),
    "hold": (-6,), "order": (-7,), "orders": (-6,),
}


class EachOtherCall(HouseTest):
    def test_every_call_and_refusal_is_here(self):
        self.assertEqual(list(CASES), NAMES)
        for name, cases in CASES.items():
            self.assertEqual(set(cases), {0, *REFUSALS[name]}, name)

    def test_what_is_told(self):
        for name, cases in CASES.items():
            for number, rows in cases.items():
                for setup, call, *in_the_way in rows:
                    with self.subTest(call=call, number=number):
                        self.assertEqual(call[0], name)
                        self.assertEqual(run(setup + [call])[-1][0], number)
                        pairs = in_the_way[0] if in_the_way else []
                        self.check_would(setup, call, [number, len(pairs) // 2] + pairs)

    def test_the_setups_are_accepted(self):
        for setup in (HOUSE, STOPPED, FULL, CHAIN, OFFSET, MUCH, LITTLE):
            self.assertEqual({reply[0] for reply in run(setup)}, {0})


class NotOpen(HouseTest):
    def test_every_other_call(self):
        for name, cases in CASES.items():
            if name != "open":
                for rows in cases.values():
                    for setup, call, *rest in rows:
                        self.check_would([], call, [-2, 0])
                        self.check_would([("open", 5, 4, 0)], call, [-2, 0])

    def test_open_itself(self):
        self.check_would([], ("open", 3, 3, 0), [0, 0])
        self.check_would([], ("open", 3, 2, 0), [-4, 0])
        self.check([], ("open", 3, 2, 101), [-1])
        calls = [would(("open", 3, 4, 0)), ("tree",), would(("tree",)), ("open", 1, 2, 0), would(("open", 3, 4, 0)),
                 would(("tree",)), ("found", 0, 9, 0), ("desk", 1, 0), ("worst", 1, 0)]
        self.assertEqual(run(calls), [[0, 0, 0], [-2], [0, -2, 0], [0], [0, -3, 0], [0, 0, 0], [0, 1], [0, 1],
                                      [0, 0, 1]])


class OutOfRange(HouseTest):
    def test_minus_one_alone(self):
        for setup in ([], HOUSE):
            for call in [("open", -1000001, 0, 0), ("found", 65, 0, 0), ("line", 0, 9), ("fence", 1, 2),
                         ("move", 1, 65), ("desk", 1, 8), ("give", 65, 1), ("close", 0),
                         ("step", 1, 100, 0, 0, 1), ("live", 1, 2, 0, 1),
                         ("block", 1, 0, 0, 0, 10, 0, [1]), ("block", 1, 0, 0, 0, 0, 99, [1, 0]),
                         ("block", 1, 0, 0, 0, 0, 0, []), ("block", 1, 0, 0, 0, 0, 0, [0]), ("cancel", 0),
                         ("cut", 1, 0), ("fill", 1, BILLION + 1, 0), ("settle", 8, 0, 0, []),
                         ("settle", 0, 0, 0, [0] * 65), ("take", BILLION + 1, [], []), ("take", 3, [0], []),
                         ("take", 3, [], [1000001]), ("take", 3, [3] * 200, [0] * 200), ("payin", 1, 0),
                         ("payout", 1, 10**15 + 1), ("charge", 1, -10**15 - 1), ("stop", 1, -1), ("leave", 65),
                         ("need", 0), ("firm", -HUGE), ("worst", 1, -1), ("at", 1, 0, HUGE), ("most", 1, 0, -1, 0),
                         ("hold", 65), ("order", 0), ("orders", HUGE)]:
                self.check_refused(setup, call, -1)
                self.check_refused_would(setup, call)

    def check_refused_would(self, setup, call):
        self.assertEqual(last(setup + [would(call)]), [-1], call)
        self.check_changes_nothing(setup, would(call))


class InTheWay(HouseTest):
    def test_all_firms_above_in_order_of_number(self):
        # Firm 4 stands below firm 3, that below firm 1, that below firm 2.
        calls = OPEN + [("found", 0, 7, 0), ("found", 0, 3, 0), ("found", 1, 5, 0), ("found", 3, 9, 0), ("move", 1, 2),
                        ("desk", 4, 0)]
        for amount, pairs in ((3, []), (4, [2, 1]), (6, [2, 3, 3, 1]), (8, [1, 1, 2, 5, 3, 3]),
                              (10, [1, 3, 2, 7, 3, 5, 4, 1])):
            number = -15 if pairs else 0
            for call in (("step", 1, 0, BUY, 1, amount), ("live", 1, SELL, -1, amount), ("payout", 4, amount),
                         ("block", 1, BUY, 1, 0, 0, 0, [amount])):
                self.check_would(calls, call, [number, len(pairs) // 2] + pairs)

    def test_among_sixty_four_firms(self):
        # Firms 1 to 8 stand one below the other; the others, all below firm 1, don't see the desk.
        calls = OPEN + [("found", number - 1 if number <= 8 else 1, 0, 0) for number in range(1, 65)]
        calls.append(("desk", 8, 0))
        pairs = [part for number in range(1, 9) for part in (number, 6)]
        self.check_would(calls, ("live", 1, BUY, 2, 3), [-15, 8] + pairs)

    def test_above_its_line_before_and_worse(self):
        calls = HOUSE + [("charge", 2, 20)]
        self.check(calls, ("short",), [0, 1, 2, 9])
        self.check_would(calls, ("step", 1, 0, BUY, 5, 1), [-15, 1, 2, 14])
        self.check_would(calls, ("payout", 2, 1), [-15, 1, 2, 10])
        self.check_would(calls, ("payout", 2, 42), [-15, 2, 1, 1, 2, 51])
        self.check_would(calls, ("line", 2, 30), [-15, 1, 2, 29])

    def test_above_its_line_and_not_worse(self):
        calls = HOUSE + [("charge", 3, 99)]
        self.check(calls, ("short",), [0, 1, 3, 69])
        self.check_would(calls, ("step", 1, 0, BUY, 5, 2), [0, 0])
        self.check_would(calls, ("step", 1, 0, BUY, 6, 2), [-15, 1, 2, 1])
        self.check_would(calls, ("line", 3, 30), [0, 0])
        self.check_would(calls, ("line", 3, 31), [0, 0])
        self.check_would(calls, ("live", 2, BUY, 0, 9), [0, 0])
        self.check_would(calls, ("live", 2, BUY, 1, 9), [-15, 1, 3, 78])

    def test_a_child_above_its_line_while_its_parent_is_in_the_way(self):
        calls = HOUSE + [("charge", 2, 20)]
        self.check_would(calls, ("payout", 1, 42), [-15, 1, 1, 1])

    def test_better_but_still_above_its_line(self):
        # Firm 1 loses firm 2 with its 59, and stays above its line by what it owes itself.
        calls = HOUSE + [("charge", 2, 20), ("charge", 1, 200)]
        self.check(calls, ("short",), [0, 2, 1, 159, 2, 9])
        self.check_would(calls, ("move", 2, 0), [0, 0])
        self.check_would(calls, ("move", 2, 3), [-15, 1, 3, 29])
        self.check_would(calls, ("give", 1, 3), [-15, 1, 3, 9])

    def test_a_fence_hides_growth(self):
        calls = OPEN + [("found", 0, 5, 0), ("found", 1, 4, 1), ("desk", 2, 0), ("charge", 2, -10), ("charge", 1, 9)]
        self.check(calls, ("short",), [0, 1, 1, 4])
        self.check_would(calls, ("live", 1, BUY, 1, 10), [0, 0])
        self.check_would(calls, ("live", 1, BUY, 1, 11), [-15, 1, 1, 5])
        self.check_would(calls, ("live", 1, BUY, 1, 15), [-15, 2, 1, 9, 2, 1])
        self.check_would(calls + [("fence", 2, 0)], ("live", 1, BUY, 1, 10), [-15, 1, 1, 4 + 5 - 5])

    def test_greatest_amounts(self):
        calls = [("open", -1000000, 1000000, 0), ("found", 0, HUGE, 0), ("found", 1, 0, 0), ("desk", 1, 0)]
        whole_day = ("block", 1, BUY, 1000000, 0, 0, 0, [BILLION] * 100)
        self.check_would(calls + [whole_day] * 9, whole_day, [0, 0])
        self.check_would(calls + [whole_day] * 10, whole_day, [-15, 1, 1, 10**17])
        self.check_would(calls + [whole_day] * 10, ("give", 1, 2), [-15, 1, 2, HUGE])
        self.check_would(calls + [whole_day] * 10, ("line", 1, 0), [-15, 1, 1, HUGE])

    def test_other_refusals_name_nobody(self):
        # Each of these would want room too.
        self.check_would(STOPPED, ("step", 1, 0, BUY, 10, 9), [-10, 0])
        self.check_would(HOUSE, ("step", 1, 0, BUY, 11, 9), [-11, 0])
        self.check_would(FULL, ("live", 1, BUY, 10, 9), [-8, 0])
        self.check_would(STOPPED, ("payout", 2, 10**15), [-10, 0])
        self.check_would(HOUSE, ("block", 1, BUY, 10, 1, 0, 0, [9]), [-12, 0])


class NothingIsChanged(HouseTest):
    def test_numbers_are_not_used_up(self):
        calls = HOUSE + [would(("step", 1, 0, BUY, 5, 1)), would(("found", 1, 9, 0)), would(("desk", 1, 0))] * 30
        self.assertEqual(run(calls + [("live", 1, BUY, 0, 1), ("found", 0, 9, 0), ("desk", 1, 0)])[-3:],
                         [[0, 5], [0, 4], [0, 3]])

    def test_would_of_all_cases_on_one_house(self):
        asked = [row[1] for cases in CASES.values() for rows in cases.values() for row in rows]
        replies = run(HOUSE + [would(call) for call in asked] + [("tree",), ("need", 1), ("orders", 1), ("firm", 2)])
        self.assertLessEqual(len(HOUSE) + len(asked) + 4, 400)
        self.assertEqual(replies[-4:], run(HOUSE + [("tree",), ("need", 1), ("orders", 1), ("firm", 2)])[-4:])
        for call, told in zip(asked, replies[len(HOUSE):]):
            self.check_told(told, call, last(HOUSE + [call])[0])

    def test_between_other_calls(self):
        self.check_all([
            (would(("tree",)), [0, -2, 0]),
            (("open", -10, 10, 50), [0]),
            (would(("found", 0, 9, 0)), [0, 0, 0]),
            (("firm", 1), [-5]),
            (("found", 0, 9, 0), [0, 1]),
            (would(("desk", 1, 0)), [0, 0, 0]),
            (would(("live", 1, BUY, 5, 2)), [0, -6, 0]),
            (("desk", 1, 0), [0, 1]),
            (would(("live", 1, BUY, 5, 2)), [0, -15, 1, 1, 1]),
            (("live", 1, BUY, 5, 2), [-15]),
            (would(("live", 1, BUY, 3, 3)), [0, 0, 0]),
            (("orders", 1), [0, 0]),
            (("live", 1, BUY, 3, 3), [0, 1]),
            (would(("cancel", 1)), [0, 0, 0]),
            (would(("close", 1)), [0, -13, 0]),
            (would(("fill", 1, 3, 3)), [0, 0, 0]),
            (("need", 1), [0, 9, 9, 9, 0]),
            (("fill", 1, 3, 3), [0, 9]),
            (would(("fill", 1, 3, 3)), [0, -7, 0]),
            (would(("stop", 1, 2)), [-1]),
            (would(("close", 1)), [0, 0, 0]),
            (("close", 1), [0]),
            (would(("payin", 1, 9)), [0, 0, 0]),
            (would(("leave", 1)), [0, -13, 0]),
            (("payin", 1, 9), [0, 0]),
            (would(("leave", 1)), [0, 0, 0]),
            (("leave", 1), [0]),
            (would(("leave", 1)), [0, -5, 0]),
        ])

"""-1 for every argument out of its range, -2 before the house is open."""

from helper import BILLION, HUGE, MONEY, NAMES, HouseTest, last, run, would

PRICE = (-1000000, 1000000)
AMOUNT = (1, BILLION)
QUARTER = (0, 99)
ZONE = (0, 7)
FLAG = (0, 1)
FIRM = (1, 64)
DESK = (1, 64)
ORDER = (1, BILLION)
LINE = (0, HUGE)

RANGES = {
    "open": (PRICE, PRICE, (0, 100)),
    "found": ((0, 64), LINE, FLAG),
    "line": (FIRM, LINE),
    "fence": (FIRM, FLAG),
    "move": (FIRM, (0, 64)),
    "desk": (FIRM, ZONE),
    "give": (DESK, FIRM),
    "close": (DESK,),
    "step": (DESK, QUARTER, FLAG, PRICE, AMOUNT),
    "live": (DESK, FLAG, PRICE, AMOUNT),
    "block": (DESK, FLAG, PRICE, (0, BILLION), (0, 9), QUARTER),
    "cancel": (ORDER,),
    "cut": (ORDER, AMOUNT),
    "fill": (ORDER, AMOUNT, PRICE),
    "settle": (ZONE, QUARTER, PRICE),
    "take": (ORDER,),
    "payin": (FIRM, (1, MONEY)),
    "payout": (FIRM, (1, MONEY)),
    "charge": (FIRM, (-MONEY, MONEY)),
    "stop": (FIRM, FLAG),
    "leave": (FIRM,),
    "need": (FIRM,),
    "firm": (FIRM,),
    "tree": (),
    "short": (),
    "worst": (DESK, QUARTER),
    "at": (DESK, QUARTER, PRICE),
    "most": (DESK, QUARTER, FLAG, PRICE),
    "hold": (DESK,),
    "order": (ORDER,),
    "orders": (DESK,),
}

LISTS = {"block": [[1]], "settle": [[]], "take": [[1], []]}

# A house in which firm 1, desk 1 and order 1 (a block) are there.
OPENED = [
    ("open", -1000000, 1000000, 100),
    ("found", 0, HUGE, 0),
    ("desk", 1, 0),
    ("block", 1, 0, 0, 0, 0, 0, [1]),
]


def numbers_within(name):
    return [max(low, min(1, high)) for low, high in RANGES[name]]


def call_with(name, place, number):
    numbers = numbers_within(name)
    numbers[place] = number
    return (name, *numbers, *LISTS.get(name, []))


class Ranges(HouseTest):
    def test_every_call_is_here(self):
        self.assertEqual(list(RANGES), NAMES)

    def test_just_outside(self):
        for name, ranges in RANGES.items():
            for place, (low, high) in enumerate(ranges):
                for number in (low - 1, high + 1, -HUGE if low > -HUGE else low - 1, HUGE if high < HUGE else high + 1):
                    with self.subTest(name=name, place=place, number=number):
                        call = call_with(name, place, number)
                        self.check([], call, [-1])
                        self.check_refused(OPENED, call, -1)

    def test_just_inside(self):
        for name, ranges in RANGES.items():
            for place, (low, high) in enumerate(ranges):
                for number in (low, high):
                    with self.subTest(name=name, place=place, number=number):
                        call = call_with(name, place, number)
                        self.assertNotEqual(last([call]), [-1])
                        self.assertNotEqual(last(OPENED + [call]), [-1])
                        self.assertEqual(last([would(call)])[0], 0)
                        self.assertEqual(last(OPENED + [would(call)])[0], 0)

    def test_not_open(self):
        for name in NAMES[1:]:
            with self.subTest(name=name):
                call = (name, *numbers_within(name), *LISTS.get(name, []))
                self.check([], call, [-2])
                self.check([("open", 5, 4, 0)], call, [-2])
                self.assertEqual(run([call, ("open", 0, 0, 0), ("tree",)])[1:], [[0], [0, 0]])

    def check_row(self, call, fits):
        with self.subTest(call=call):
            if fits:
                self.assertNotEqual(last([call]), [-1])
                self.assertNotEqual(last(OPENED + [call]), [-1])
                self.assertEqual(last([would(call)])[0], 0)
                self.assertEqual(last(OPENED + [would(call)])[0], 0)
            else:
                self.check([], call, [-1])
                self.check_refused(OPENED, call, -1)

    def test_amounts_of_block(self):
        def block(quarter, amounts):
            return ("block", 1, 0, 5, 0, 0, quarter, amounts)

        self.check_row(block(0, []), False)
        self.check_row(block(0, [1]), True)
        self.check_row(block(0, [1] * 100), True)
        self.check_row(block(0, [1] * 101), False)
        self.check_row(block(0, [1] * 100 + [0]), False)
        self.check_row(block(0, [1] * 200), False)
        self.check_row(block(0, [0]), False)
        self.check_row(block(0, [0] * 100), False)
        self.check_row(block(0, [0, 0, 1]), True)
        self.check_row(block(0, [-1]), False)
        self.check_row(block(0, [5, -1]), False)
        self.check_row(block(0, [BILLION]), True)
        self.check_row(block(0, [BILLION + 1]), False)
        self.check_row(block(0, [1, BILLION + 1]), False)

    def test_amounts_beyond_the_last_quarter(self):
        def block(quarter, amounts):
            return ("block", 1, 0, 5, 0, 0, quarter, amounts)

        self.check_row(block(99, [1]), True)
        self.check_row(block(99, [1, 1]), False)
        self.check_row(block(99, [1, 0]), False)
        self.check_row(block(98, [1, 1]), True)
        self.check_row(block(98, [1, 1, 0]), False)
        self.check_row(block(1, [1] * 99), True)
        self.check_row(block(1, [1] * 100), False)
        self.check_row(block(1, [1] + [0] * 99), False)

    def test_shares_of_settle(self):
        def settle(shares):
            return ("settle", 0, 0, 5, shares)

        self.check_row(settle([]), True)
        self.check_row(settle([0] * 64), True)
        self.check_row(settle([0] * 65), False)
        self.check_row(settle([0] * 200), False)
        self.check_row(settle([-1]), False)
        self.check_row(settle([0, BILLION]), True)
        self.check_row(settle([0, BILLION + 1]), False)

    def test_rows_of_take(self):
        def take(taken, prices):
            return ("take", 1, taken, prices)

        self.check_row(take([], []), True)
        self.check_row(take([1] * 64, []), True)
        self.check_row(take([1] * 65, []), False)
        self.check_row(take([0], []), False)
        self.check_row(take([1, 0], []), False)
        self.check_row(take([-1], []), False)
        self.check_row(take([1, BILLION], []), True)
        self.check_row(take([1, BILLION + 1], []), False)
        self.check_row(take([], [0] * 100), True)
        self.check_row(take([], [0] * 101), False)
        self.check_row(take([], [1000000, -1000000]), True)
        self.check_row(take([], [0, 1000001]), False)
        self.check_row(take([], [-1000001, 0]), False)

    def test_range_before_all_other_refusals(self):
        self.check_refused(OPENED, ("open", 1000001, 0, 0), -1)
        self.check([], ("open", 5, 4, 101), [-1])
        self.check_refused(OPENED, ("found", 9, -1, 0), -1)
        self.check_refused(OPENED, ("line", 9, -1), -1)
        self.check_refused(OPENED, ("give", 9, 65), -1)
        self.check_refused(OPENED, ("step", 9, 100, 0, 0, 1), -1)
        self.check_refused(OPENED, ("step", 1, 0, 0, 1000001, 1), -1)
        self.check_refused(OPENED, ("block", 9, 0, 0, 9, 9, 0, [0]), -1)
        self.check_refused(OPENED, ("cut", 9, 0), -1)
        self.check_refused(OPENED, ("fill", 9, 0, 0), -1)
        self.check_refused(OPENED, ("take", 9, [0], []), -1)
        self.check_refused(OPENED, ("payout", 9, 0), -1)

"""What the tests share: calls in a readable form, and checks that many tests make.

A call is a tuple: its name, its numbers, then its lists, as in ("block", 1, 0, 5, 0, 0, 98, [3, 4]).
The call that asks what another would be answered has the other call behind its name: ("would", "hold", 1).
"""

import unittest

from quarterdesk.house import answers

NAMES = (
    "open found line fence move desk give close step live block cancel cut fill settle take payin payout "
    "charge stop leave need firm tree short worst at most hold order orders"
).split()
PLACES = {name: place for place, name in enumerate(NAMES)}
WOULD = 31

BUY = 0
SELL = 1
BILLION = 10**9
HUGE = 10**18
MONEY = 10**15


def encode(calls):
    told = []
    for call in calls:
        numbers = [PLACES.get(part, part) for part in call if not isinstance(part, list)]
        rows = [part for part in call if isinstance(part, list)]
        if call[0] == "would":
            numbers[0] = WOULD
        told += [numbers[0], len(numbers) - 1] + numbers[1:] + [len(rows)]
        for row in rows:
            told += [len(row)] + row
    return told


def decode(told):
    replies = []
    position = 0
    while position < len(told):
        count = told[position]
        replies.append(told[position + 1:position + 1 + count])
        position += 1 + count
    assert position == len(told)
    return replies


def run(calls):
    replies = decode(answers(encode(calls)))
    assert len(replies) == len(calls)
    return replies


def last(calls):
    return run(calls)[-1]


def would(call):
    return ("would",) + call


def count_of(calls, *names):
    return sum(1 for call in calls if call[0] in names)


def probes(setup):
    """Calls that show everything that a setup can have brought into the house."""
    asked = [("tree",), ("short",)]
    for firm in range(1, min(count_of(setup, "found"), 64) + 1):
        asked += [("need", firm), ("firm", firm)]
    for desk in range(1, min(count_of(setup, "desk"), 64) + 1):
        asked += [("orders", desk), ("hold", desk)]
    for order in range(1, count_of(setup, "step", "live", "block") + 1):
        asked.append(("order", order))
    return asked


def numberings(setup):
    """Calls whose answers tell which numbers are given next."""
    return [("found", 0, 5, 0), ("desk", 1, 0), ("live", 1, BUY, 0, 1)]


def owing(money):
    """A house whose firm 1, with desk 1, owes that much, which is near 10^18 or near -10^18."""
    side = BUY if money > 0 else SELL
    calls = [("open", -1000000, 1000000, 50), ("found", 0, HUGE, 0), ("desk", 1, 0)]
    # Ten blocks of 10^17 each: in a hundred quarters 10^9 at a price of 10^6.
    for number in range(1, 11):
        calls.append(("block", 1, side, 1000000, 0, 0, 0, [BILLION] * 100))
        calls.append(("take", number, [number], [1000000] * 100))
    left = money - HUGE if money > 0 else money + HUGE
    return calls + [("charge", 1, left)]


class HouseTest(unittest.TestCase):
    def check(self, setup, call, reply):
        """Checks the reply, and that would, asked ahead of the call, tells it and leaves it as it is."""
        self.assertEqual(last(list(setup) + [call]), reply, call)
        told, then = run(list(setup) + [would(call), call])[-2:]
        self.assertEqual(then, reply, call)
        self.check_told(told, call, reply[0])

    def check_told(self, told, call, number):
        if number == -15:
            self.assertEqual(told[:2], [0, -15], call)
            self.assertGreater(told[2], 0, call)
            self.assertEqual(len(told), 3 + 2 * told[2], call)
            self.assertEqual(told[3::2], sorted(set(told[3::2])), call)
            self.assertTrue(all(lacking > 0 for lacking in told[4::2]), call)
        else:
            self.assertEqual(told, [-1] if number == -1 else [0, number, 0], call)

    def check_all(self, calls_and_replies):
        calls = [call for call, reply in calls_and_replies]
        for (call, reply), given in zip(calls_and_replies, run(calls)):
            self.assertEqual(given, reply, call)

    def check_changes_nothing(self, setup, call):
        behind = probes(setup) + numberings(setup)
        without = run(list(setup) + behind)[len(setup):]
        with_call = run(list(setup) + [call] + behind)[len(setup) + 1:]
        self.assertEqual(with_call, without, call)

    def check_would(self, setup, call, told):
        """Checks what would tells behind its 0, that the call itself is answered so, and that nothing is changed."""
        self.assertEqual(last(list(setup) + [would(call)]), [0] + told, call)
        self.assertEqual(run(list(setup) + [would(call), call])[-1][0], told[0], call)
        self.check_changes_nothing(setup, would(call))

    def check_refused(self, setup, call, number):
        self.check(setup, call, [number])
        self.check_changes_nothing(setup, call)

    def check_asks(self, setup, call, reply):
        self.check(setup, call, [0] + reply)
        self.check_changes_nothing(setup, call)

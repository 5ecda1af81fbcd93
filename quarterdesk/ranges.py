"""The ranges of the calls' arguments."""

BOUNDS = {
    "price": (-1000000, 1000000),
    "amount": (1, 1000000000),
    "amount or 0": (0, 1000000000),
    "quarter": (0, 99),
    "zone": (0, 7),
    "yes or no": (0, 1),
    "side": (0, 1),
    "hundredths": (0, 100),
    "line": (0, 1000000000000000000),
    "firm": (1, 64),
    "firm or 0": (0, 64),
    "desk": (1, 64),
    "order": (1, 1000000000),
    "order or 0": (0, 1000000000),
    "group": (0, 9),
    "money": (1, 1000000000000000),
    "money either way": (-1000000000000000, 1000000000000000),
}

ARGUMENTS = {
    0: ("price", "price", "hundredths"),
    1: ("firm or 0", "line", "yes or no"),
    2: ("firm", "line"),
    3: ("firm", "yes or no"),
    4: ("firm", "firm or 0"),
    5: ("firm", "zone"),
    6: ("desk", "firm"),
    7: ("desk",),
    8: ("desk", "quarter", "side", "price", "amount"),
    9: ("desk", "side", "price", "amount"),
    10: ("desk", "side", "price", "order or 0", "group", "quarter"),
    11: ("order",),
    12: ("order", "amount"),
    13: ("order", "amount", "price"),
    14: ("zone", "quarter", "price"),
    15: ("order",),
    16: ("firm", "money"),
    17: ("firm", "money"),
    18: ("firm", "money either way"),
    19: ("firm", "yes or no"),
    20: ("firm",),
    21: ("firm",),
    22: ("firm",),
    23: (),
    24: (),
    25: ("desk", "quarter"),
    26: ("desk", "quarter", "price"),
    27: ("desk", "quarter", "side", "price"),
    28: ("desk",),
    29: ("order",),
    30: ("desk",),
}

# What the numbers of a call's further rows are, and how many a row may have at most.
ROWS = {
    10: (("amount or 0", 100),),
    14: (("amount or 0", 64),),
    15: (("order", 64), ("price", 100)),
}

BLOCK_CALL = 10
QUARTERS = 100


def in_range(call):
    kinds = ARGUMENTS[call.place]
    if not all([fits(number, kind) for number, kind in zip(call.numbers, kinds)]):
        return False
    if not all([row_fits(row, rule) for row, rule in zip(call.rows, ROWS.get(call.place, ()))]):
        return False
    return call.place != BLOCK_CALL or amounts_fit(call.numbers[5], call.rows[0])


def fits(number, kind):
    bounds = BOUNDS[kind]
    return bounds[0] <= number <= bounds[1]


def row_fits(row, rule):
    return len(row) <= rule[1] and all([fits(number, rule[0]) for number in row])


# A row of no amounts has none above 0, so it needs no look of its own.
def amounts_fit(quarter, amounts):
    return quarter + len(amounts) <= QUARTERS and any([amount > 0 for amount in amounts])

"""How the calls are told in one list of whole numbers."""


class Call:
    def __init__(self, place, numbers, rows):
        self.place = place
        self.numbers = numbers
        self.rows = rows


# The slices are copies, so that nothing done later can reach the list that was handed in.
def read_calls(told):
    calls = []
    position = 0
    while position < len(told):
        place = told[position]
        numbers = read_counted(told, position + 1)
        position = position + 2 + len(numbers)
        rows = read_rows(told, position)
        position = position + 1 + len(rows) + sum([len(row) for row in rows])
        calls.append(Call(place, numbers, rows))
    return calls


def read_rows(told, position):
    rows = []
    start = position + 1
    while len(rows) < told[position]:
        row = read_counted(told, start)
        rows.append(row)
        start = start + 1 + len(row)
    return rows


def read_counted(told, position):
    return told[position + 1:position + 1 + told[position]]

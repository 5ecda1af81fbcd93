"""A house is asked calls, one after the other, and answers them."""

from quarterdesk.records import House, copy_house
from quarterdesk.reading import Call, read_calls
from quarterdesk.ranges import in_range
from quarterdesk.needs import firms_in_the_way
from quarterdesk.firmcalls import FIRM_CALLS
from quarterdesk.ordercalls import ORDER_CALLS
from quarterdesk.clearing import CLEARING_CALLS
from quarterdesk.asking import ASKING_CALLS
from quarterdesk.refusals import OUT_OF_RANGE, NOT_YET_OPENED, NO_ROOM

OPENING = 0
WOULD = 31

# line, fence, move, give, step, live, block, cancel, cut and payout
CALLS_THAT_NEED_ROOM = (2, 3, 4, 6, 8, 9, 10, 11, 12, 17)


def do_call(house, call):
    if call.place in FIRM_CALLS:
        return FIRM_CALLS[call.place](house, call.numbers)
    if call.place in ORDER_CALLS:
        return ORDER_CALLS[call.place](house, call.numbers, call.rows)
    if call.place in CLEARING_CALLS:
        return CLEARING_CALLS[call.place](house, call.numbers, call.rows)
    return ASKING_CALLS[call.place](house, call.numbers)


# The call is done to the draft; room is found by comparing it with the house as it was.
def reply_to(house, draft, call):
    if not in_range(call):
        return [OUT_OF_RANGE]
    if call.place != OPENING and not house.opened:
        return [NOT_YET_OPENED]
    reply = do_call(draft, call)
    if reply[0] == 0 and call.place in CALLS_THAT_NEED_ROOM and len(firms_in_the_way(house, draft)) > 0:
        return [NO_ROOM]
    return reply


# Room is looked at last, so where it's wanting the draft shows the other call done.
def reply_to_would(house, draft, call):
    other = Call(call.numbers[0], call.numbers[1:], call.rows)
    reply = reply_to(house, draft, other)
    if reply[0] == OUT_OF_RANGE:
        return reply
    in_the_way = firms_in_the_way(house, draft) if reply[0] == NO_ROOM else []
    told = [0, reply[0], len(in_the_way)]
    for number, lacking in in_the_way:
        told.extend([number, lacking])
    return told


# A refused call may leave its draft half changed, and would only tries the other call on it:
# the house itself never sees that.
def answers(calls):
    house = House()
    told = []
    for call in read_calls(calls):
        draft = copy_house(house)
        if call.place == WOULD:
            reply = reply_to_would(house, draft, call)
        else:
            reply = reply_to(house, draft, call)
            if reply[0] == 0:
                house = draft
        told.append(len(reply))
        told.extend(reply)
    return told

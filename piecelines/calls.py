"""The calls told apart: by whether they speak of no sender, of all, or of one that was opened."""

from piecelines.desk_calls import answer_desk_call, is_desk_call
from piecelines.plain_calls import answer_plain_call, is_plain_call
from piecelines.refusals import MOST_SENDER, NOT_OPENED, OUT_OF_RANGE
from piecelines.sender_calls import answer_sender_call


def answer_call(call, desk, numbers, rows):
    if is_plain_call(call):
        return answer_plain_call(call, numbers, rows)
    if is_desk_call(call):
        return answer_desk_call(call, desk, numbers, rows)
    if not 0 <= numbers[0] <= MOST_SENDER:
        return [OUT_OF_RANGE]
    if numbers[0] not in desk.senders:
        return [NOT_OPENED]
    return answer_sender_call(call, desk, desk.senders[numbers[0]], numbers, rows)

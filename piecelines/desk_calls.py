"""The calls that speak of all senders, or of one that need not have been opened."""

from piecelines.desk import Sender, lose_power
from piecelines.refusals import IS_OPEN, MOST_RULES, MOST_SENDER, NOT_BYTES, OUT_OF_RANGE, RECORDS_WAIT
from piecelines.rules import fault_answer, read_rules
from piecelines.words import is_bytes


def call_clear(desk, numbers, rows):
    desk.senders = {}
    return [0]


def refused_opening(desk, number, row):
    if not 0 <= number <= MOST_SENDER:
        return OUT_OF_RANGE
    if number in desk.senders and desk.senders[number].state.is_open:
        return IS_OPEN
    if number in desk.senders and desk.senders[number].state.queue:
        return RECORDS_WAIT
    if not is_bytes(row, MOST_RULES):
        return NOT_BYTES
    return 0


def call_opening(desk, numbers, rows):
    number = numbers[0]
    refusal = refused_opening(desk, number, rows[0])
    if refusal:
        return [refusal]
    rules = read_rules(rows[0])
    if rules.fault:
        return fault_answer(rules)
    before = desk.senders[number].state.opened if number in desk.senders else 0
    desk.senders[number] = Sender(rules, before + 1)
    return [0, before + 1]


def call_cut(desk, numbers, rows):
    lose_power(desk)
    return [len(desk.senders)]


def call_counts(desk, numbers, rows):
    return [sum([sender.state.is_open for sender in desk.senders.values()]), len(desk.senders)]


DESK_CALLS = {0: call_clear, 1: call_opening, 8: call_cut, 21: call_counts}


def is_desk_call(call):
    return call in DESK_CALLS


def answer_desk_call(call, desk, numbers, rows):
    return DESK_CALLS[call](desk, numbers, rows)

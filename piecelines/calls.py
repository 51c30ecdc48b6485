"""The calls: what each one does to the senders, and what it answers."""

from piecelines.checkpoints import Checkpoint, checkpoint_text, read_checkpoint
from piecelines.records import body_numbers, finish
from piecelines.rules import read_rules
from piecelines.states import State, close_state, copied_state, take_bytes
from piecelines.words import is_bytes

OUT_OF_RANGE = -1
NOT_BYTES = -2
IS_OPEN = -3
NOT_OPENED = -4
BEYOND_PLACE = -5
RECORDS_WAIT = -6
NONE_WAITS = -7
QUEUE_FULL = -8

MOST_SENDER = 15
MOST_BYTES = 500
MOST_RULES = 300
MOST_WAITING = 200
MOST_NUMBER = 1000000


# A checkpoint stands beside the slot that it was read from, or None if it can't be read.
class Sender:
    def __init__(self, rules, opened):
        self.rules = rules
        self.state = State(opened)
        self.slots = ["", ""]
        self.checkpoints = [None, None]


class Desk:
    def __init__(self):
        self.senders = {}


def is_sender(number):
    return 0 <= number <= MOST_SENDER


def best_checkpoint(sender):
    best = None
    for checkpoint in sender.checkpoints:
        if checkpoint is not None and (best is None or checkpoint.generation > best.generation):
            best = checkpoint
    return best


def next_generation(sender):
    best = best_checkpoint(sender)
    return 1 if best is None else best.generation + 1


# most is how many bytes are written before power goes, None if it stays.
# What is read from a whole text is the state that it was written from: that is kept, as reading takes long.
def write_checkpoint(sender, most):
    generation = next_generation(sender)
    text = checkpoint_text(generation, sender.state)
    slot = generation % 2
    if most is None or most >= len(text):
        sender.slots[slot] = text
        sender.checkpoints[slot] = Checkpoint(generation, copied_state(sender.state))
    else:
        sender.slots[slot] = text[:most]
        sender.checkpoints[slot] = read_checkpoint(text[:most])
    return generation


# The best checkpoint's state is copied, as power may be lost with it as the best one again.
def lose_power(desk):
    for sender in desk.senders.values():
        best = best_checkpoint(sender)
        sender.state = State(sender.state.opened) if best is None else copied_state(best.state)


def call_clear(desk, numbers, rows):
    desk.senders = {}
    return [0]


def refused_opening(desk, number, row):
    if not is_sender(number):
        return OUT_OF_RANGE
    if number in desk.senders and desk.senders[number].state.is_open:
        return IS_OPEN
    if number in desk.senders and desk.senders[number].state.queue:
        return RECORDS_WAIT
    if not is_bytes(row, MOST_RULES):
        return NOT_BYTES
    return 0


def call_opening(desk, numbers, rows):
    number = numbers[0]
    refusal = refused_opening(desk, number, rows[0])
    if refusal:
        return [refusal]
    rules = read_rules(rows[0])
    if rules.fault:
        return [1, rules.fault, rules.fault_line]
    before = desk.senders[number].state.opened if number in desk.senders else 0
    desk.senders[number] = Sender(rules, before + 1)
    return [0, before + 1]


def call_cut(desk, numbers, rows):
    lose_power(desk)
    return [len(desk.senders)]


def refused_feed(state, place, row):
    if not is_bytes(row, MOST_BYTES):
        return NOT_BYTES
    if not state.is_open:
        return NOT_OPENED
    if place < 0:
        return OUT_OF_RANGE
    if place > state.place:
        return BEYOND_PLACE
    if len(state.queue) > MOST_WAITING:
        return QUEUE_FULL
    return 0


def call_feed(desk, sender, numbers, rows):
    state = sender.state
    refusal = refused_feed(state, numbers[1], rows[0])
    if refusal:
        return [refusal]
    before = state.upcoming
    take_bytes(sender.rules, state, rows[0][state.place - numbers[1]:])
    return [state.place, state.upcoming - before]


def call_close(desk, sender, numbers, rows):
    state = sender.state
    if not state.is_open:
        return [NOT_OPENED]
    before = state.upcoming
    close_state(sender.rules, state)
    return [state.upcoming - before]


def call_rest(desk, sender, numbers, rows):
    before = sender.state.upcoming
    finish(sender.state)
    return [sender.state.upcoming - before]


def call_next(desk, sender, numbers, rows):
    if not sender.state.queue:
        return [NONE_WAITS]
    record = sender.state.queue[0]
    points = record.body.points
    return [record.number] + body_numbers(record.body) + [len(points)] + points


def call_take(desk, sender, numbers, rows):
    if not 0 <= numbers[1] <= MOST_NUMBER:
        return [OUT_OF_RANGE]
    state = sender.state
    state.queue = [record for record in state.queue if record.number >= numbers[1]]
    return [len(state.queue)]


def call_save(desk, sender, numbers, rows):
    return [sender.state.place, write_checkpoint(sender, None)]


def call_cutsave(desk, sender, numbers, rows):
    if not 0 <= numbers[1] <= MOST_NUMBER:
        return [OUT_OF_RANGE]
    write_checkpoint(sender, numbers[1])
    lose_power(desk)
    return [sender.state.place]


def call_ack(desk, sender, numbers, rows):
    best = best_checkpoint(sender)
    if best is None:
        return [0, 0, 0]
    return [best.state.place, best.state.upcoming, best.generation]


# Calls that speak of all senders, or of one that need not have been opened.
DESK_CALLS = {0: call_clear, 1: call_opening, 8: call_cut}

# Calls whose first number is a sender that was opened.
SENDER_CALLS = {
    2: call_feed,
    3: call_close,
    4: call_rest,
    5: call_next,
    6: call_take,
    7: call_save,
    9: call_cutsave,
    10: call_ack,
}


def answer_call(desk, call, numbers, rows):
    if call in DESK_CALLS:
        return DESK_CALLS[call](desk, numbers, rows)
    if not is_sender(numbers[0]):
        return [OUT_OF_RANGE]
    if numbers[0] not in desk.senders:
        return [NOT_OPENED]
    return SENDER_CALLS[call](desk, desk.senders[numbers[0]], numbers, rows)

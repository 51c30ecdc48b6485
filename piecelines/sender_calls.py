"""The calls that speak of one sender that was opened."""

from piecelines.checkpoints import read_checkpoint
from piecelines.desk import best_checkpoint, lose_power, write_checkpoint
from piecelines.frames import held_numbers
from piecelines.records import body_numbers, finish
from piecelines.refusals import BEYOND_PLACE, NONE_WAITS, NOT_BYTES, NOT_OPENED, OUT_OF_RANGE, QUEUE_FULL
from piecelines.refusals import MOST_CHECKPOINT, MOST_NUMBER, MOST_ROW, MOST_WAITING
from piecelines.shown import shown_rules
from piecelines.states import close_state, take_bytes
from piecelines.words import is_bytes, row_of_text, spelled, with_size


def refused_feed(state, place, row):
    if not is_bytes(row, MOST_ROW):
        return NOT_BYTES
    if not state.is_open:
        return NOT_OPENED
    if place < 0:
        return OUT_OF_RANGE
    if place > state.place:
        return BEYOND_PLACE
    if len(state.queue) > MOST_WAITING:
        return QUEUE_FULL
    return 0


def call_feed(desk, sender, numbers, rows):
    state = sender.state
    refusal = refused_feed(state, numbers[1], rows[0])
    if refusal:
        return [refusal]
    before = state.upcoming
    take_bytes(sender.rules, state, rows[0][state.place - numbers[1]:])
    return [state.place, state.upcoming - before]


def call_close(desk, sender, numbers, rows):
    state = sender.state
    if not state.is_open:
        return [NOT_OPENED]
    before = state.upcoming
    close_state(sender.rules, state)
    return [state.upcoming - before]


def call_rest(desk, sender, numbers, rows):
    before = sender.state.upcoming
    finish(sender.state)
    return [sender.state.upcoming - before]


def call_next(desk, sender, numbers, rows):
    if not sender.state.queue:
        return [NONE_WAITS]
    record = sender.state.queue[0]
    return [record.number] + body_numbers(record.body) + with_size(record.body.points)


def call_take(desk, sender, numbers, rows):
    if not 0 <= numbers[1] <= MOST_NUMBER:
        return [OUT_OF_RANGE]
    state = sender.state
    state.queue = [record for record in state.queue if record.number >= numbers[1]]
    return [len(state.queue)]


def call_save(desk, sender, numbers, rows):
    return [sender.state.place, write_checkpoint(sender, None)]


def call_cutsave(desk, sender, numbers, rows):
    if not 0 <= numbers[1] <= MOST_NUMBER:
        return [OUT_OF_RANGE]
    write_checkpoint(sender, numbers[1])
    lose_power(desk)
    return [sender.state.place]


def call_ack(desk, sender, numbers, rows):
    best = best_checkpoint(sender)
    if best is None:
        return [0, 0, 0]
    return [best.state.place, best.state.upcoming, best.generation]


def call_slot(desk, sender, numbers, rows):
    slot = numbers[1]
    place = numbers[2]
    size = numbers[3]
    if slot not in (0, 1) or not 0 <= place <= MOST_NUMBER or not 0 <= size <= MOST_ROW:
        return [OUT_OF_RANGE]
    text = sender.slots[slot]
    return [len(text)] + with_size(row_of_text(text[place:place + size]))


def call_readslot(desk, sender, numbers, rows):
    if not is_bytes(rows[0], MOST_CHECKPOINT):
        return [NOT_BYTES]
    checkpoint = read_checkpoint(spelled(rows[0]))
    if checkpoint is None:
        return [1]
    state = checkpoint.state
    return [0, checkpoint.generation, state.opened, state.is_open, state.place, state.upcoming, len(state.queue)]


def call_held(desk, sender, numbers, rows):
    state = sender.state
    lines = 0 if state.gathered is None else state.gathered.lines
    points = [] if state.gathered is None else state.gathered.points
    told = [state.place] + held_numbers(state.held) + [lines]
    return told + with_size(state.held.kept) + with_size(points)


def call_sums(desk, sender, numbers, rows):
    return sender.state.sums + [sender.state.upcoming, len(sender.state.queue)]


def call_rule(desk, sender, numbers, rows):
    return [sender.state.opened] + with_size(row_of_text(shown_rules(sender.rules)))


SENDER_CALLS = {
    2: call_feed,
    3: call_close,
    4: call_rest,
    5: call_next,
    6: call_take,
    7: call_save,
    9: call_cutsave,
    10: call_ack,
    11: call_slot,
    12: call_readslot,
    13: call_held,
    14: call_sums,
    15: call_rule,
}


def answer_sender_call(call, desk, sender, numbers, rows):
    return SENDER_CALLS[call](desk, sender, numbers, rows)

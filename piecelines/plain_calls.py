"""The calls that speak of no sender: rules, bytes and code points are tried, and nothing is kept."""

from piecelines.decoding import decoded_bytes, decoded_utf8, encoded_utf8, is_point
from piecelines.frames import whole_frames
from piecelines.records import body_numbers
from piecelines.refusals import MOST_ROW, MOST_RULES, NOT_BYTES, OUT_OF_RANGE
from piecelines.rules import fault_answer, read_rules
from piecelines.shown import shown_rules
from piecelines.states import whole_records
from piecelines.words import is_bytes, row_of_text, with_size

STRICT_MODE = 0
MARK_MODE = 1
BYTES_MODE = 2


def call_trying(numbers, rows):
    if not is_bytes(rows[0], MOST_RULES):
        return [NOT_BYTES]
    rules = read_rules(rows[0])
    if rules.fault:
        return fault_answer(rules)
    return [0] + with_size(row_of_text(shown_rules(rules)))


def call_decoding(numbers, rows):
    mode = numbers[0]
    if mode not in (STRICT_MODE, MARK_MODE, BYTES_MODE):
        return [OUT_OF_RANGE]
    if not is_bytes(rows[0], MOST_ROW):
        return [NOT_BYTES]
    decoded = decoded_bytes(rows[0]) if mode == BYTES_MODE else decoded_utf8(rows[0])
    if mode == STRICT_MODE and decoded.marks > 0:
        return [1, decoded.first_wrong]
    return [0, decoded.marks] + with_size(decoded.points)


def call_encoding(numbers, rows):
    points = rows[0]
    if len(points) > MOST_ROW or not all([is_point(point) for point in points]):
        return [NOT_BYTES]
    return [0] + with_size(encoded_utf8(points))


def frame_row(frame):
    return [frame.begin, frame.upto, frame.ended, frame.fate, frame.lost, frame.odd] + frame.kept


def frame_rows(rules, row):
    return [frame_row(frame) for frame in whole_frames(rules, row)]


def record_rows(rules, row):
    return [body_numbers(record.body) + record.body.points for record in whole_records(rules, row)]


def answer_rows(given):
    answer = [0, len(given)]
    for row in given:
        answer.extend(with_size(row))
    return answer


def are_rules_and_bytes(rows):
    return is_bytes(rows[0], MOST_RULES) and is_bytes(rows[1], MOST_ROW)


def call_frames(numbers, rows):
    if not are_rules_and_bytes(rows):
        return [NOT_BYTES]
    rules = read_rules(rows[0])
    return fault_answer(rules) if rules.fault else answer_rows(frame_rows(rules, rows[1]))


def call_batch(numbers, rows):
    if not are_rules_and_bytes(rows):
        return [NOT_BYTES]
    rules = read_rules(rows[0])
    return fault_answer(rules) if rules.fault else answer_rows(record_rows(rules, rows[1]))


PLAIN_CALLS = {16: call_trying, 17: call_decoding, 18: call_encoding, 19: call_frames, 20: call_batch}


def is_plain_call(call):
    return call in PLAIN_CALLS


def answer_plain_call(call, numbers, rows):
    return PLAIN_CALLS[call](numbers, rows)

"""frames and batch: what bytes are for a new sender that closes behind them."""

import unittest

from telling import Telling, feed_in_pieces, records_of, rows_in
from texts import HOLDING, LF

SHOWN = ("frames", "batch")


def told_by(name, rules, told):
    return getattr(Telling(), name)(rules, told).last()


class RefusalsTest(unittest.TestCase):
    def check(self, rules, told, answer):
        for name in SHOWN:
            self.assertEqual(told_by(name, rules, told), answer, (name, rules, told))

    def test_bytes_that_are_none(self):
        for number in (-1, 256, 10 ** 18, -10 ** 18):
            self.check(LF, [97, number], [-2])
        self.check(LF, [97] * 501, [-2])

    def test_rules_that_are_no_bytes(self):
        for number in (-1, 256, 10 ** 18, -10 ** 18):
            self.check([number], "a", [-2])
        self.check([32] * 301, "a", [-2])

    def test_wrong_rules(self):
        self.check("", "a", [1, 4, 2])
        self.check("WHAT", "a", [1, 1, 1])
        self.check("FRAME LINES LF\n\nFRAME LINES LF", "", [1, 2, 3])
        self.check("#\nFRAME", "a", [1, 3, 2])
        self.check([32] * 300, "a", [1, 4, 2])

    def test_the_refusal_of_either_goes_ahead_of_wrong_rules(self):
        self.check("WHAT", [256], [-2])
        self.check("WHAT", [97] * 501, [-2])
        self.check([87, 10, 256], "a", [-2])
        self.check([87] * 301, [256], [-2])

    def test_500_bytes_and_rules_of_300(self):
        for name in SHOWN:
            answer = told_by(name, LF + "\n#" + "x" * (298 - len(LF)), [97] * 500)
            self.assertEqual(answer[:3], [0, 1, 506])


class WholeTest(unittest.TestCase):
    def test_nothing(self):
        for rules, row in HOLDING:
            self.assertEqual(told_by("frames", rules, []), [0, 0])
            self.assertEqual(told_by("batch", rules, []), [0, 0])

    def test_each_fate(self):
        rules = "FRAME LINES LF ESC 92\nLIMIT 2 "
        row = b"a\\x\nb\\y\\z\nc"
        self.assertEqual(rows_in(told_by("frames", rules + "CUT", row), 2), [
            [0, 4, 1, 0, 0, 1, 97, 120], [4, 10, 1, 1, 1, 2, 98, 121], [10, 11, 0, 0, 0, 0, 99]])
        self.assertEqual(rows_in(told_by("frames", rules + "DROP", row), 2), [
            [0, 4, 1, 0, 0, 1, 97, 120], [4, 10, 1, 2, 3, 2], [10, 11, 0, 0, 0, 0, 99]])
        self.assertEqual(rows_in(told_by("frames", rules + "SPLIT", row), 2), [
            [0, 4, 1, 0, 0, 1, 97, 120], [4, 7, 6, 3, 0, 1, 98, 121], [7, 10, 1, 0, 0, 1, 122], [10, 11, 0, 0, 0, 0, 99]])
        self.assertEqual(rows_in(told_by("frames", "FRAME LENGTH 1 BIG", b"\x00\x01a\x05b"), 2), [
            [0, 1, 4, 0, 0, 0], [1, 3, 4, 0, 0, 0, 97], [3, 5, 0, 4, 2, 0]])

    def test_frames_are_not_decoded_or_skipped(self):
        rules = LF + "\nDECODE STRICT\nEMPTY SKIP\nJOIN BLANK"
        self.assertEqual(rows_in(told_by("frames", rules, [255, 10, 10, 32, 10]), 2), [
            [0, 2, 1, 0, 0, 0, 255], [2, 3, 1, 0, 0, 0], [3, 5, 1, 0, 0, 0, 32]])
        self.assertEqual(rows_in(told_by("batch", rules, [255, 10, 10, 32, 10]), 2), [[1, 3, 5, 0, 0, 0, 32]])

    def test_what_is_gathered_is_a_record_too(self):
        self.assertEqual(rows_in(told_by("batch", LF + "\nJOIN BLANK", "a\n b\nc\n d"), 2), [
            [2, 0, 5, 0, 0, 0, 97, 10, 32, 98], [2, 5, 9, 0, 0, 0, 99, 10, 32, 100]])
        self.assertEqual(rows_in(told_by("batch", LF + "\nJOIN TAIL 43", "a+\n"), 2), [[1, 0, 3, 0, 0, 0, 97]])

    def test_marks_odd_ones_and_cut(self):
        rules = "FRAME LINES LF ESC 92\nLIMIT 3 CUT\nJOIN BLANK"
        self.assertEqual(rows_in(told_by("batch", rules, [97, 255, 92, 98, 99, 10, 32, 254]), 2), [
            [2, 0, 8, 2, 1, 1, 97, 65533, 98, 10, 32, 65533]])

    def test_more_than_200_records(self):
        answer = told_by("batch", LF, [10] * 500)
        self.assertEqual(answer[:2], [0, 500])
        self.assertEqual(rows_in(answer, 2)[-1], [1, 499, 500, 0, 0, 0])
        self.assertEqual(told_by("frames", LF, [10] * 500)[:2], [0, 500])

    def test_batch_is_open_feed_close_and_next_in_whatever_pieces(self):
        for rules, row in HOLDING:
            for end in range(len(row) + 1):
                due = rows_in(told_by("batch", rules, row[:end]), 2)
                for size in (1, 2, 3, 7, 500):
                    given = [answer[1:7] + answer[8:] for answer in records_of(rules, row[:end], size)]
                    self.assertEqual(given, due)

    def test_frames_are_what_a_sender_sums_up(self):
        for rules, row in HOLDING:
            for end in range(len(row) + 1):
                frames = rows_in(told_by("frames", rules, row[:end]), 2)
                for size in (1, 3, 500):
                    telling = feed_in_pieces(Telling().open(0, rules), 0, row[:end], size).close(0)
                    sums = telling.sums(0).last()
                    self.assertEqual(sums[:3], [len(frames), len([frame for frame in frames if frame[3] == 2]),
                                                len([frame for frame in frames if frame[3] == 4])])
                    if "STRICT" not in rules:
                        self.assertEqual(sums[5], sum(frame[4] for frame in frames))

    def test_frames_are_the_records_of_plain_rules(self):
        for rules, row in HOLDING:
            plain = "\n".join(line for line in rules.split("\n") if line.split(" ")[0] in ("FRAME", "LIMIT"))
            for end in range(len(row) + 1):
                frames = [frame for frame in rows_in(told_by("frames", plain, row[:end]), 2) if frame[3] not in (2, 4)]
                records = rows_in(told_by("batch", plain + "\nDECODE BYTES", row[:end]), 2)
                self.assertEqual(records, [[1, frame[0], frame[1], 0, frame[5], 1 if frame[3] else 0] + frame[6:]
                                           for frame in frames])

    def test_they_touch_no_sender(self):
        telling = Telling().open(0, LF).feed(0, 0, "a\nb").frames(LF, "c\n").batch(LF, "d\n").sums(0).next(0).held(0)
        self.assertEqual(telling.counts().answers()[4:], [
            [1, 0, 0, 0, 0, 0, 1, 1], [0, 1, 0, 2, 0, 0, 0, 1, 97], [3, 1, 2] + [0] * 8 + [0, 1, 98, 0], [1, 1]])


if __name__ == "__main__":
    unittest.main()

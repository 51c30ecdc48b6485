"""What held and sums tell of a sender."""

import unittest

from telling import Telling, rows_in
from texts import HOLDING, JOINED, LF, SLIP, fed, text_behind

OUTSIDE = (-1, 16, 10 ** 18, -10 ** 18)
NOTHING = [0, 0, 0, 0, 0, 0, 0, 0, 0, 0]
COUNT = "FRAME COUNT BASE 10 SEP 32"


def held(rules, told, closed=False):
    """(place, the ten numbers, lines gathered, bytes kept, code points gathered)."""
    answer = fed(rules, told, closed).held(0).last()
    kept, points = rows_in(answer, 12)
    return (answer[0], answer[1:11], answer[11], bytes(kept), points)


class HeldTest(unittest.TestCase):
    def check(self, rules, told, numbers, kept=b""):
        """With nothing gathered; in one piece, and byte by byte."""
        self.assertEqual(held(rules, told), (len(told), numbers, 0, kept, []))
        telling = Telling().open(0, rules)
        for place in range(len(told)):
            telling.feed(0, place, told[place:place + 1])
        self.assertEqual(telling.held(0).last(), fed(rules, told).held(0).last())

    def test_a_new_sender(self):
        for rules in (LF, "FRAME LINES CRLF", "FRAME LINES ANY", SLIP, COUNT, "FRAME LENGTH 1 BIG"):
            self.check(rules, b"", NOTHING)

    def test_the_form_of_the_answer(self):
        answer = fed(JOINED, "a\n b\nc\n d\ne\\").held(0).last()
        self.assertEqual(answer, [12, 1, 10, 1, 0, 0, 0, 0, 0, 0, 0, 2, 1, 101, 4, 99, 10, 32, 100])
        self.assertEqual(Telling().open(0, LF).held(0).last(), [0] * 14)

    def test_content_and_begin(self):
        self.check(LF, b"ab", [2, 0, 0, 0, 0, 0, 0, 0, 0, 0], b"ab")
        self.check(LF, b"x\nabc", [3, 2, 0, 0, 0, 0, 0, 0, 0, 0], b"abc")
        self.check(LF, b"x\n", [0, 2, 0, 0, 0, 0, 0, 0, 0, 0])

    def test_beyond_the_limit(self):
        for beyond in ("CUT", "DROP"):
            self.check(LF + "\nLIMIT 2 " + beyond, b"x\nabcd", [4, 2, 0, 0, 0, 0, 0, 0, 0, 0], b"ab")
        self.check(LF + "\nLIMIT 2 SPLIT", b"x\nabcd", [2, 4, 0, 0, 0, 0, 0, 0, 0, 0], b"cd")
        self.check(LF + "\nLIMIT 2 SPLIT", b"x\nabcde", [1, 6, 0, 0, 0, 0, 0, 0, 0, 0], b"e")

    def test_an_escape_that_waits(self):
        for ending in ("LF", "CRLF", "ANY"):
            rules = "FRAME LINES " + ending + " ESC 92"
            self.check(rules, b"a\\", [1, 0, 1, 0, 0, 0, 0, 0, 0, 0], b"a")
            self.check(rules, b"a\\\\", [2, 0, 0, 0, 0, 0, 0, 0, 0, 0], b"a\\")
        self.check(SLIP, b"\x01\xdb", [1, 0, 1, 0, 0, 0, 0, 0, 0, 0], b"\x01")
        self.check(SLIP, b"\x01\xdb\xdc", [2, 0, 0, 0, 0, 0, 0, 0, 0, 0], b"\x01\xc0")
        self.check(SLIP, b"\xc0\xdb", [0, 1, 1, 0, 0, 0, 0, 0, 0, 0])

    def test_an_escape_that_waits_at_the_limit_splits_nothing_yet(self):
        rules = LF + " ESC 92\nLIMIT 1 SPLIT"
        self.check(rules, b"a\\", [1, 0, 1, 0, 0, 0, 0, 0, 0, 0], b"a")
        self.check(rules, b"a\\x", [1, 1, 0, 0, 0, 0, 0, 0, 0, 1], b"x")

    def test_odd_escapes(self):
        self.check(LF + " ESC 92", b"\\x\\n\\y", [3, 0, 0, 0, 0, 0, 0, 0, 0, 2], b"x\ny")
        self.check(LF + " ESC 92", b"\\x\n\\y", [1, 3, 0, 0, 0, 0, 0, 0, 0, 1], b"y")
        self.check(SLIP, b"\xdb\x05\xdb\xc0", [2, 0, 0, 0, 0, 0, 0, 0, 0, 2], b"\x05\xc0")

    def test_a_13_that_waits(self):
        self.check("FRAME LINES CRLF", b"a\r", [1, 0, 0, 1, 0, 0, 0, 0, 0, 0], b"a")
        self.check("FRAME LINES CRLF", b"a\r\r", [2, 0, 0, 1, 0, 0, 0, 0, 0, 0], b"a\r")
        self.check("FRAME LINES CRLF", b"a\r\n", [0, 3, 0, 0, 0, 0, 0, 0, 0, 0])
        self.check("FRAME LINES CRLF", b"a\rb", [3, 0, 0, 0, 0, 0, 0, 0, 0, 0], b"a\rb")
        self.check("FRAME LINES ANY", b"a\r", [0, 2, 0, 1, 0, 0, 0, 0, 0, 0])
        self.check("FRAME LINES ANY", b"a\r\r", [0, 3, 0, 1, 0, 0, 0, 0, 0, 0])
        self.check("FRAME LINES ANY", b"a\r\n", [0, 3, 0, 0, 0, 0, 0, 0, 0, 0])
        self.check("FRAME LINES ANY", b"a\rb", [1, 2, 0, 0, 0, 0, 0, 0, 0, 0], b"b")
        self.check("FRAME LINES LF", b"a\r", [2, 0, 0, 0, 0, 0, 0, 0, 0, 0], b"a\r")

    def test_an_escape_behind_a_13(self):
        self.check("FRAME LINES CRLF ESC 92", b"a\r\\", [2, 0, 1, 0, 0, 0, 0, 0, 0, 0], b"a\r")
        self.check("FRAME LINES ANY ESC 92", b"a\r\\", [0, 2, 1, 0, 0, 0, 0, 0, 0, 0])
        self.check("FRAME LINES CRLF ESC 92", b"a\\\r", [2, 0, 0, 0, 0, 0, 0, 0, 0, 1], b"a\r")

    def test_a_number_that_is_being_read(self):
        self.check(COUNT, b"12", [0, 0, 0, 0, 12, 2, 0, 0, 0, 0])
        self.check(COUNT, b"1 x012", [0, 3, 0, 0, 12, 3, 0, 0, 0, 0])
        self.check(COUNT, b"000000000000", [0, 0, 0, 0, 0, 12, 0, 0, 0, 0])
        self.check("FRAME COUNT BASE 16 SEP 58", b"fA", [0, 0, 0, 0, 250, 2, 0, 0, 0, 0])
        self.check("FRAME LENGTH 3 BIG", b"\x01\x02", [0, 0, 0, 0, 258, 2, 0, 0, 0, 0])
        self.check("FRAME LENGTH 3 LITTLE", b"\x01\x02", [0, 0, 0, 0, 513, 2, 0, 0, 0, 0])
        self.check("FRAME LENGTH 4 BIG", b"\xff\xff\xff", [0, 0, 0, 0, 16777215, 3, 0, 0, 0, 0])
        self.check("FRAME LENGTH 2 BIG MINUS 9", b"\x00", [0, 0, 0, 0, 0, 1, 0, 0, 0, 0])

    def test_bytes_that_are_to_come(self):
        self.check(COUNT, b"3 ", [0, 0, 0, 0, 0, 0, 4, 0, 0, 0])
        self.check(COUNT, b"3 ab", [2, 0, 0, 0, 0, 0, 2, 0, 0, 0], b"ab")
        self.check(COUNT, b"3 abc", [0, 5, 0, 0, 0, 0, 0, 0, 0, 0])
        self.check(COUNT, b"0 ", [0, 2, 0, 0, 0, 0, 0, 0, 0, 0])
        self.check(COUNT, b"4000 ", [0, 0, 0, 0, 0, 0, 4001, 0, 0, 0])
        self.check(COUNT + "\nLIMIT 1 CUT", b"4 abc", [3, 0, 0, 0, 0, 0, 2, 0, 0, 0], b"a")
        self.check(COUNT + "\nLIMIT 1 SPLIT", b"4 abc", [1, 4, 0, 0, 0, 0, 2, 0, 0, 0], b"c")
        self.check("FRAME LENGTH 1 BIG", b"\x03a", [1, 0, 0, 0, 0, 0, 3, 0, 0, 0], b"a")
        self.check("FRAME LENGTH 1 BIG PLUS 5", b"\x03", [0, 0, 0, 0, 0, 0, 9, 0, 0, 0])
        self.check("FRAME LENGTH 1 BIG MINUS 1", b"\x03", [0, 0, 0, 0, 0, 0, 3, 0, 0, 0])
        self.check("FRAME LENGTH 1 BIG MINUS 3", b"\x03", [0, 1, 0, 0, 0, 0, 0, 0, 0, 0])

    def test_one_that_goes_on_to_a_10(self):
        for told in (b"x", b"12x", b" ", b" 1", b"4001", b"4001 ab", b"0000000000000", b"1-", b"99999"):
            self.check(COUNT, told, [0, 0, 0, 0, 0, 0, 0, 1, 0, 0])
            self.check(COUNT, told + b"\n", [0, len(told) + 1, 0, 0, 0, 0, 0, 0, 0, 0])
            self.check(COUNT, b"1 a" + told, [0, 3, 0, 0, 0, 0, 0, 1, 0, 0])

    def test_one_that_never_ends(self):
        self.check("FRAME LENGTH 2 BIG", b"\x0f\xa1", [0, 0, 0, 0, 0, 0, 0, 0, 1, 0])
        self.check("FRAME LENGTH 2 BIG", b"\x0f\xa1ab\n", [0, 0, 0, 0, 0, 0, 0, 0, 1, 0])
        self.check("FRAME LENGTH 2 BIG", b"\x0f\xa0", [0, 0, 0, 0, 0, 0, 4001, 0, 0, 0])
        self.check("FRAME LENGTH 1 LITTLE MINUS 2", b"\x02\x01x", [0, 1, 0, 0, 0, 0, 0, 0, 1, 0])

    def test_lines_that_are_gathered(self):
        self.assertEqual(held(JOINED, b"a\n")[2:], (1, b"", [97]))
        self.assertEqual(held(JOINED, b"a\n b\n c")[2:], (2, b" c", [97, 10, 32, 98]))
        self.assertEqual(held(JOINED, b"\n")[2:], (1, b"", []))
        self.assertEqual(held(LF + "\nJOIN TAIL 43 WITH SPACE", b"a+\nb+\n")[2:], (2, b"", [97, 32, 98]))
        self.assertEqual(held(LF + "\nJOIN TAIL 43", b"a+\nb\n")[2:], (0, b"", []))
        self.assertEqual(held(LF, b"a\n b\n")[2:], (0, b"", []))
        self.assertEqual(fed(JOINED, b"a\nb").rest(0).held(0).last()[11:], [0, 1, 98, 0])

    def test_behind_a_close(self):
        for rules, told in HOLDING:
            for size in range(len(told) + 1):
                self.assertEqual(held(rules, told[:size], True), (size, [0, size] + [0] * 8, 0, b"", []))

    def test_it_is_what_the_checkpoint_tells(self):
        for rules, row in HOLDING:
            for size in range(len(row) + 1):
                lines = [[int(word) for word in line.split(" ")[1:]]
                         for line in text_behind(rules, row[:size]).split("\n")[2:4]]
                place, numbers, gathered, kept, points = held(rules, row[:size])
                self.assertEqual((place, numbers + list(kept)), (size, lines[0]))
                self.assertEqual(([gathered] if gathered else []) + points, lines[1][:1] + lines[1][6:])

    def test_behind_a_cut_it_is_as_saved(self):
        for rules, row in HOLDING:
            for size in range(len(row) + 1):
                saved = fed(rules, row[:size]).save(0).held(0).sums(0).feed(0, size, row[size:]).close(0)
                given = saved.take(0, 1000000).cut().held(0).sums(0).answers()
                self.assertEqual(given[3:5], given[-2:])

    def test_refusals(self):
        for sender in OUTSIDE:
            self.assertEqual(Telling().held(sender).sums(sender).answers(), [[-1], [-1]])
        self.assertEqual(Telling().held(0).sums(0).answers(), [[-4], [-4]])


class SumsTest(unittest.TestCase):
    def check(self, rules, told, sums, closed=False):
        self.assertEqual(fed(rules, told, closed).sums(0).last(), sums)

    def test_a_new_sender(self):
        self.check(LF, b"", [0] * 8)

    def test_frames_and_records(self):
        self.check(LF, b"a\nb\nc", [2, 0, 0, 0, 0, 0, 2, 2])
        self.check(LF, b"a\nb\nc", [3, 0, 0, 0, 0, 0, 3, 3], True)
        self.assertEqual(fed(LF, b"a\nb\nc\n").take(0, 2).sums(0).last(), [3, 0, 0, 0, 0, 0, 3, 1])
        self.check(JOINED, b"a\n b\nc\n", [3, 0, 0, 0, 0, 0, 1, 1])

    def test_dropped(self):
        self.check(LF + "\nLIMIT 2 DROP", b"abc\nab\nabcd\n", [3, 2, 0, 0, 0, 7, 1, 1])

    def test_wrong(self):
        self.check(COUNT, b"1 ax\n\n9", [3, 0, 2, 0, 0, 3, 1, 1])
        self.check(COUNT, b"1 ax\n\n9", [4, 0, 3, 0, 0, 4, 1, 1], True)
        self.check("FRAME LENGTH 1 BIG", b"\x01a\x05bcd", [2, 0, 1, 0, 0, 4, 1, 1], True)

    def test_refused(self):
        self.check(LF + "\nDECODE STRICT", b"ab\xff\nab\n\x80\n", [3, 0, 0, 2, 0, 4, 1, 1])
        self.check(LF + "\nDECODE MARK", b"ab\xff\nab\n\x80\n", [3, 0, 0, 0, 0, 0, 3, 3])

    def test_refused_ones_that_were_cut(self):
        self.check(LF + "\nDECODE STRICT\nLIMIT 2 CUT", b"\xffabc\n", [1, 0, 0, 1, 0, 4, 0, 0])

    def test_empty_ones_that_made_no_line(self):
        self.check(LF + "\nEMPTY SKIP", b"\n\na\n\n", [4, 0, 0, 0, 3, 0, 1, 1])
        self.check(LF + "\nEMPTY KEEP", b"\n\na\n\n", [4, 0, 0, 0, 0, 0, 4, 4])
        self.check(COUNT + "\nEMPTY SKIP", b"0 1 a0 x\n", [4, 0, 1, 0, 2, 2, 1, 1])

    def test_a_dropped_one_is_no_empty_one(self):
        self.check(LF + "\nEMPTY SKIP\nLIMIT 1 DROP", b"ab\n", [1, 1, 0, 0, 0, 2, 0, 0])

    def test_lost(self):
        self.check(LF + "\nLIMIT 2 CUT", b"abcde\nab\nabc\n", [3, 0, 0, 0, 0, 4, 3, 3])
        self.check(LF + "\nLIMIT 2 SPLIT", b"abcde\n", [3, 0, 0, 0, 0, 0, 3, 3])

    def test_bytes_behind_a_13_are_no_frame(self):
        self.check("FRAME LINES ANY", b"a\r\nb\r\n", [2, 0, 0, 0, 0, 0, 2, 2])

    def test_of_a_sender_opened_again(self):
        telling = fed(LF, b"a\n", True).take(0, 9).open(0, LF).sums(0)
        self.assertEqual(telling.last(), [0] * 8)

    def test_power_takes_them_back(self):
        telling = fed(LF, b"a\nb\n").save(0).feed(0, 4, b"c\n").take(0, 2).sums(0).cut().sums(0)
        self.assertEqual(telling.answers()[5:], [[3, 0, 0, 0, 0, 0, 3, 1], [1], [2, 0, 0, 0, 0, 0, 2, 2]])


if __name__ == "__main__":
    unittest.main()

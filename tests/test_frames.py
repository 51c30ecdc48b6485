import unittest

from telling import Telling, frames_of, records_of, rows_in

CLOSED, TEN, THIRTEEN, BOTH, NUMBER, END, LIMIT = range(7)
WHOLE, CUT, DROPPED, SPLIT_OFF, WRONG = range(5)

SLIP = "FRAME SLIP END 192 ESC 219 AS 220 221"


def whole(begin, upto, ended, kept, odd=0):
    return (begin, upto, ended, WHOLE, 0, odd, bytes(kept))


def wrong(begin, upto, ended):
    return (begin, upto, ended, WRONG, upto - begin, 0, b"")


class Checked(unittest.TestCase):
    def check(self, rules, told, frames):
        rows = [list(frame[:6]) + list(frame[6]) for frame in frames]
        answer = Telling().frames(rules, told).last()
        self.assertEqual(answer[:2], [0, len(frames)])
        self.assertEqual(rows_in(answer, 2), rows)
        self.check_records(rules, told, frames)

    def check_records(self, rules, told, frames):
        """By the calls, in one piece and byte by byte: a record for each frame that makes a line."""
        due = [[f[0], f[1], 0, f[5], 1 if f[3] else 0, len(f[6])] + list(f[6])
               for f in frames if f[3] not in (DROPPED, WRONG)]
        for size in (500, 1, 2, 3):
            given = records_of(rules + "\nDECODE BYTES", told, size)
            self.assertEqual([answer[2:] for answer in given], due)
            self.assertEqual([answer[:2] for answer in given], [[at, 1] for at in range(len(due))])


class LinesTest(Checked):
    def test_lf(self):
        self.check("FRAME LINES LF", b"ab\n\n\rc\r\nd", [
            whole(0, 3, TEN, b"ab"), whole(3, 4, TEN, b""), whole(4, 8, TEN, b"\rc\r"), whole(8, 9, CLOSED, b"d")])

    def test_nothing_is_no_frame(self):
        for rules in ("LINES LF", "LINES CRLF", "LINES ANY", "COUNT BASE 10 SEP 32", "LENGTH 1 BIG"):
            self.check("FRAME " + rules, b"", [])
        self.check(SLIP, b"", [])

    def test_nothing_behind_the_last_end_is_no_frame(self):
        self.check("FRAME LINES LF", b"\n", [whole(0, 1, TEN, b"")])
        self.check("FRAME LINES CRLF", b"\r\n", [whole(0, 2, BOTH, b"")])
        self.check("FRAME LINES ANY", b"\r", [whole(0, 1, THIRTEEN, b"")])

    def test_crlf(self):
        self.check("FRAME LINES CRLF", b"a\r\n\r\nb\nc\rd\r\r\n\n\r\n", [
            whole(0, 3, BOTH, b"a"), whole(3, 5, BOTH, b""), whole(5, 13, BOTH, b"b\nc\rd\r"),
            whole(13, 16, BOTH, b"\n")])

    def test_crlf_with_a_13_that_waits_at_the_close(self):
        self.check("FRAME LINES CRLF", b"a\r", [whole(0, 2, CLOSED, b"a\r")])
        self.check("FRAME LINES CRLF", b"\r", [whole(0, 1, CLOSED, b"\r")])
        self.check("FRAME LINES CRLF", b"\r\r", [whole(0, 2, CLOSED, b"\r\r")])

    def test_any(self):
        self.check("FRAME LINES ANY", b"a\nb\rc\r\nd\n\re\r\r\n\nf", [
            whole(0, 2, TEN, b"a"), whole(2, 4, THIRTEEN, b"b"), whole(4, 6, THIRTEEN, b"c"),
            whole(7, 9, TEN, b"d"), whole(9, 10, THIRTEEN, b""), whole(10, 12, THIRTEEN, b"e"),
            whole(12, 13, THIRTEEN, b""), whole(14, 15, TEN, b""), whole(15, 16, CLOSED, b"f")])

    def test_any_with_an_escape_behind_a_13(self):
        self.check("FRAME LINES ANY ESC 92", b"a\r\\nb\n", [whole(0, 2, THIRTEEN, b"a"), whole(2, 6, TEN, b"\nb")])
        self.check("FRAME LINES ANY ESC 92", b"a\r\\\nb\n", [
            whole(0, 2, THIRTEEN, b"a"), whole(2, 6, TEN, b"\nb", 1)])
        self.check("FRAME LINES ANY ESC 92", b"a\\\r\nb", [whole(0, 4, TEN, b"a\r", 1), whole(4, 5, CLOSED, b"b")])

    def test_escapes(self):
        self.check("FRAME LINES LF ESC 92", b"\\n\\r\\t\\\\\n", [whole(0, 9, TEN, b"\n\r\t\\")])

    def test_odd_escapes(self):
        self.check("FRAME LINES LF ESC 92", b"\\x\\\n\\N\n\\\xff", [
            whole(0, 7, TEN, b"x\nN", 3), whole(7, 9, CLOSED, b"\xff", 1)])

    def test_n_r_and_t_keep_their_meaning_where_they_are_the_escape(self):
        self.check("FRAME LINES LF ESC 110", b"nnnrnx\n", [whole(0, 7, TEN, b"\n\rx", 1)])

    def test_without_escapes_told_all_is_content(self):
        self.check("FRAME LINES LF", b"\\n\n", [whole(0, 3, TEN, b"\\n")])

    def test_an_escape_that_waits_at_the_close_is_content_and_odd(self):
        for way in ("LF", "CRLF", "ANY"):
            self.check("FRAME LINES " + way + " ESC 92", b"a\\", [whole(0, 2, CLOSED, b"a\\", 1)])
            self.check("FRAME LINES " + way + " ESC 92", b"\\", [whole(0, 1, CLOSED, b"\\", 1)])

    def test_crlf_with_escapes(self):
        self.check("FRAME LINES CRLF ESC 92", b"\\\r\n\r\\\nx\r\n", [whole(0, 9, BOTH, b"\r\n\r\nx", 2)])
        self.check("FRAME LINES CRLF ESC 92", b"a\r\\", [whole(0, 3, CLOSED, b"a\r\\", 1)])


class LimitTest(Checked):
    def test_as_many_as_the_limit_are_kept(self):
        for way in ("CUT", "DROP", "SPLIT"):
            self.check("FRAME LINES LF\nLIMIT 3 " + way, b"abc\nabc", [
                whole(0, 4, TEN, b"abc"), whole(4, 7, CLOSED, b"abc")])

    def test_cut(self):
        self.check("FRAME LINES LF\nLIMIT 3 CUT", b"abcdef\nabcd", [
            (0, 7, TEN, CUT, 3, 0, b"abc"), (7, 11, CLOSED, CUT, 1, 0, b"abc")])

    def test_drop(self):
        self.check("FRAME LINES LF\nLIMIT 3 DROP", b"abcdef\nab\nabcd", [
            (0, 7, TEN, DROPPED, 6, 0, b""), whole(7, 10, TEN, b"ab"), (10, 14, CLOSED, DROPPED, 4, 0, b"")])

    def test_split(self):
        self.check("FRAME LINES LF\nLIMIT 3 SPLIT", b"abcdefg\nabc\n", [
            (0, 3, LIMIT, SPLIT_OFF, 0, 0, b"abc"), (3, 6, LIMIT, SPLIT_OFF, 0, 0, b"def"),
            whole(6, 8, TEN, b"g"), whole(8, 12, TEN, b"abc")])

    def test_split_at_the_close(self):
        self.check("FRAME LINES LF\nLIMIT 3 SPLIT", b"abcd", [
            (0, 3, LIMIT, SPLIT_OFF, 0, 0, b"abc"), whole(3, 4, CLOSED, b"d")])

    def test_split_ahead_of_an_escape(self):
        self.check("FRAME LINES LF ESC 92\nLIMIT 2 SPLIT", b"ab\\n\\x\\yc\n", [
            (0, 2, LIMIT, SPLIT_OFF, 0, 0, b"ab"), (2, 6, LIMIT, SPLIT_OFF, 0, 1, b"\nx"),
            whole(6, 10, TEN, b"yc", 1)])
        self.check(SLIP + "\nLIMIT 1 SPLIT", [1, 219, 220, 219, 7, 192], [
            (0, 1, LIMIT, SPLIT_OFF, 0, 0, bytes([1])), (1, 3, LIMIT, SPLIT_OFF, 0, 0, bytes([192])),
            whole(3, 6, END, [7], 1)])

    def test_split_by_a_13_that_waited(self):
        self.check("FRAME LINES CRLF\nLIMIT 1 SPLIT", b"a\rb\r\n", [
            (0, 1, LIMIT, SPLIT_OFF, 0, 0, b"a"), (1, 2, LIMIT, SPLIT_OFF, 0, 0, b"\r"), whole(2, 5, BOTH, b"b")])
        self.check("FRAME LINES CRLF ESC 92\nLIMIT 1 SPLIT", b"a\r\\n\r\n", [
            (0, 1, LIMIT, SPLIT_OFF, 0, 0, b"a"), (1, 2, LIMIT, SPLIT_OFF, 0, 0, b"\r"), whole(2, 6, BOTH, b"\n")])

    def test_split_at_the_close_by_what_waits(self):
        self.check("FRAME LINES CRLF\nLIMIT 1 SPLIT", b"a\r", [
            (0, 1, LIMIT, SPLIT_OFF, 0, 0, b"a"), whole(1, 2, CLOSED, b"\r")])
        self.check("FRAME LINES LF ESC 92\nLIMIT 1 SPLIT", b"a\\", [
            (0, 1, LIMIT, SPLIT_OFF, 0, 0, b"a"), whole(1, 2, CLOSED, b"\\", 1)])
        self.check(SLIP + "\nLIMIT 1 SPLIT", [1, 219], [
            (0, 1, LIMIT, SPLIT_OFF, 0, 0, bytes([1])), whole(1, 2, CLOSED, [219], 1)])

    def test_a_13_and_10_behind_the_limit_split_nothing(self):
        self.check("FRAME LINES CRLF\nLIMIT 3 SPLIT", b"abc\r\n", [whole(0, 5, BOTH, b"abc")])

    def test_odd_ones_beyond_the_limit_count(self):
        self.check("FRAME LINES LF ESC 92\nLIMIT 1 CUT", b"\\x\\y\n", [(0, 5, TEN, CUT, 1, 2, b"x")])
        self.check("FRAME LINES LF ESC 92\nLIMIT 1 DROP", b"\\x\\y\n", [(0, 5, TEN, DROPPED, 2, 2, b"")])

    def test_what_waits_at_the_close_may_go_beyond_the_limit(self):
        self.check("FRAME LINES CRLF\nLIMIT 1 CUT", b"a\r", [(0, 2, CLOSED, CUT, 1, 0, b"a")])
        self.check("FRAME LINES LF ESC 92\nLIMIT 1 DROP", b"a\\", [(0, 2, CLOSED, DROPPED, 2, 1, b"")])

    def test_the_limit_that_is_not_told(self):
        frames = frames_of("FRAME LINES LF", b"a" * 1001 + b"\n" + b"a" * 1000)
        self.assertEqual(frames, [(0, 1002, TEN, CUT, 1, 0, b"a" * 1000), whole(1002, 2002, CLOSED, b"a" * 1000)])

    def test_counted_frames(self):
        told = b"5 abcde2 xy"
        self.check("FRAME COUNT BASE 10 SEP 32\nLIMIT 3 CUT", told, [
            (0, 7, NUMBER, CUT, 2, 0, b"abc"), whole(7, 11, NUMBER, b"xy")])
        self.check("FRAME COUNT BASE 10 SEP 32\nLIMIT 3 DROP", told, [
            (0, 7, NUMBER, DROPPED, 5, 0, b""), whole(7, 11, NUMBER, b"xy")])
        self.check("FRAME COUNT BASE 10 SEP 32\nLIMIT 2 SPLIT", told, [
            (0, 4, LIMIT, SPLIT_OFF, 0, 0, b"ab"), (4, 6, LIMIT, SPLIT_OFF, 0, 0, b"cd"),
            whole(6, 7, NUMBER, b"e"), whole(7, 11, NUMBER, b"xy")])
        self.check("FRAME LENGTH 1 BIG\nLIMIT 2 SPLIT", b"\x04abcd\x01x", [
            (0, 3, LIMIT, SPLIT_OFF, 0, 0, b"ab"), whole(3, 5, NUMBER, b"cd"), whole(5, 7, NUMBER, b"x")])

    def test_a_split_frame_that_the_close_makes_wrong(self):
        self.check("FRAME COUNT BASE 10 SEP 32\nLIMIT 2 SPLIT", b"5 abcd", [
            (0, 4, LIMIT, SPLIT_OFF, 0, 0, b"ab"), wrong(4, 6, CLOSED)])
        self.check("FRAME LENGTH 1 BIG\nLIMIT 2 SPLIT", b"\x05abc", [
            (0, 3, LIMIT, SPLIT_OFF, 0, 0, b"ab"), wrong(3, 4, CLOSED)])


class CountTest(Checked):
    TEN_BY_BLANK = "FRAME COUNT BASE 10 SEP 32"

    def test_numbers(self):
        self.check(self.TEN_BY_BLANK, b"3 abc0 002 \n 1 x", [
            whole(0, 5, NUMBER, b"abc"), whole(5, 7, NUMBER, b""), whole(7, 13, NUMBER, b"\n "),
            whole(13, 16, NUMBER, b"x")])

    def test_letters_great_and_small(self):
        self.check("FRAME COUNT BASE 36 SEP 32", b"A 0123456789z " + b"." * 35, [
            whole(0, 12, NUMBER, b"0123456789"), whole(12, 49, NUMBER, b"." * 35)])
        self.check("FRAME COUNT BASE 16 SEP 32", b"f " + b"x" * 15 + b"g \n", [
            whole(0, 17, NUMBER, b"x" * 15), wrong(17, 20, TEN)])
        self.check("FRAME COUNT BASE 2 SEP 32", b"10 ab2 \n", [whole(0, 5, NUMBER, b"ab"), wrong(5, 8, TEN)])

    def test_every_digit(self):
        for value, sign in list(enumerate("0123456789abcdefghijklmnopqrstuvwxyz")) + [(10, "A"), (15, "F"), (35, "Z")]:
            told = sign.encode() + b" " + b"." * value
            self.check("FRAME COUNT BASE 36 SEP 32", told, [whole(0, value + 2, NUMBER, b"." * value)])
            if 1 < value:
                self.check("FRAME COUNT BASE " + str(value) + " SEP 32", told + b"\n", [wrong(0, value + 3, TEN)])

    def test_signs_beside_the_digits_are_wrong(self):
        for sign in b"/:@[`{\xff\x00-+":
            self.check("FRAME COUNT BASE 36 SEP 32", bytes([sign]) + b"1 x\n1 y", [
                wrong(0, 5, TEN), whole(5, 8, NUMBER, b"y")])

    def test_a_wrong_one_goes_on_to_the_next_10(self):
        self.check(self.TEN_BY_BLANK, b"1x2 ab\n1 z", [wrong(0, 7, TEN), whole(7, 10, NUMBER, b"z")])
        self.check(self.TEN_BY_BLANK, b"1\n1 z", [wrong(0, 2, TEN), whole(2, 5, NUMBER, b"z")])
        self.check(self.TEN_BY_BLANK, b"\n1 z", [wrong(0, 1, TEN), whole(1, 4, NUMBER, b"z")])

    def test_sep_without_a_digit_before(self):
        self.check(self.TEN_BY_BLANK, b" 1 a\n1 z", [wrong(0, 5, TEN), whole(5, 8, NUMBER, b"z")])

    def test_twelve_digits(self):
        self.check(self.TEN_BY_BLANK, b"000000000001 a1 b", [whole(0, 14, NUMBER, b"a"), whole(14, 17, NUMBER, b"b")])
        self.check(self.TEN_BY_BLANK, b"0000000000001 a\n1 b", [wrong(0, 16, TEN), whole(16, 19, NUMBER, b"b")])

    def test_at_most_4000(self):
        self.assertEqual(frames_of(self.TEN_BY_BLANK, b"4000 " + b"a" * 4000), [
            (0, 4005, NUMBER, CUT, 3000, 0, b"a" * 1000)])
        self.check(self.TEN_BY_BLANK, b"4001 a\n1 b", [wrong(0, 7, TEN), whole(7, 10, NUMBER, b"b")])
        self.check(self.TEN_BY_BLANK, b"99999999\n1 b", [wrong(0, 9, TEN), whole(9, 12, NUMBER, b"b")])

    def test_sep_is_a_digit_itself(self):
        self.check("FRAME COUNT BASE 10 SEP 53", b"25ab15c", [whole(0, 4, NUMBER, b"ab"), whole(4, 7, NUMBER, b"c")])
        self.check("FRAME COUNT BASE 10 SEP 53", b"515a\n15b", [wrong(0, 5, TEN), whole(5, 8, NUMBER, b"b")])
        self.check("FRAME COUNT BASE 10 SEP 53", b"0000000000015x", [whole(0, 14, NUMBER, b"x")])

    def test_sep_is_a_10_itself(self):
        self.check("FRAME COUNT BASE 10 SEP 10", b"2\nab\n1\nc4001\n1\nd", [
            whole(0, 4, NUMBER, b"ab"), wrong(4, 5, TEN), whole(5, 8, NUMBER, b"c"), wrong(8, 13, TEN),
            whole(13, 16, NUMBER, b"d")])

    def test_what_is_there_at_the_close_is_wrong(self):
        for told in (b"1", b"x", b"2 ", b"2 a", b"x\x00\x01", b"4001", b" "):
            self.check(self.TEN_BY_BLANK, told, [wrong(0, len(told), CLOSED)])
        self.check(self.TEN_BY_BLANK, b"1 a3 bc", [whole(0, 3, NUMBER, b"a"), wrong(3, 7, CLOSED)])


class LengthTest(Checked):
    def test_one_byte(self):
        self.check("FRAME LENGTH 1 BIG", b"\x02ab\x00\x01\n", [
            whole(0, 3, NUMBER, b"ab"), whole(3, 4, NUMBER, b""), whole(4, 6, NUMBER, b"\n")])

    def test_big_and_little(self):
        self.check("FRAME LENGTH 2 BIG", b"\x00\x02ab\x00\x00\x00\x01c", [
            whole(0, 4, NUMBER, b"ab"), whole(4, 6, NUMBER, b""), whole(6, 9, NUMBER, b"c")])
        self.check("FRAME LENGTH 2 LITTLE", b"\x02\x00ab\x00\x00\x01\x00c", [
            whole(0, 4, NUMBER, b"ab"), whole(4, 6, NUMBER, b""), whole(6, 9, NUMBER, b"c")])
        self.check("FRAME LENGTH 2 BIG", b"\x01\x04" + b"a" * 260, [whole(0, 262, NUMBER, b"a" * 260)])
        self.check("FRAME LENGTH 3 LITTLE", b"\x04\x01\x00" + b"a" * 260, [whole(0, 263, NUMBER, b"a" * 260)])
        self.check("FRAME LENGTH 4 BIG", b"\x00\x00\x00\x01a", [whole(0, 5, NUMBER, b"a")])
        self.check("FRAME LENGTH 4 LITTLE", b"\x01\x00\x00\x00a", [whole(0, 5, NUMBER, b"a")])

    def test_plus_and_minus(self):
        self.check("FRAME LENGTH 1 BIG PLUS 2", b"\x00ab\x01abc", [whole(0, 3, NUMBER, b"ab"), whole(3, 7, NUMBER, b"abc")])
        self.check("FRAME LENGTH 1 BIG MINUS 1", b"\x03ab\x01", [whole(0, 3, NUMBER, b"ab"), whole(3, 4, NUMBER, b"")])

    def test_below_0_it_never_ends(self):
        self.check("FRAME LENGTH 1 BIG MINUS 3", b"\x03\x02\x03\x04a\n", [whole(0, 1, NUMBER, b""), wrong(1, 6, CLOSED)])

    def test_above_4000_it_never_ends(self):
        self.assertEqual(frames_of("FRAME LENGTH 2 BIG", b"\x0f\xa0" + b"a" * 4000), [
            (0, 4002, NUMBER, CUT, 3000, 0, b"a" * 1000)])
        self.check("FRAME LENGTH 2 BIG", b"\x0f\xa1\n\x00\x01a", [wrong(0, 6, CLOSED)])
        self.check("FRAME LENGTH 2 BIG PLUS 1", b"\x0f\xa0\n", [wrong(0, 3, CLOSED)])
        self.check("FRAME LENGTH 4 LITTLE", b"\xff\xff\xff\xff\n", [wrong(0, 5, CLOSED)])
        self.assertEqual(frames_of("FRAME LENGTH 2 BIG MINUS 1\nLIMIT 1 DROP", b"\x0f\xa1" + b"a" * 4000), [
            (0, 4002, NUMBER, DROPPED, 4000, 0, b"")])

    def test_what_is_there_at_the_close_is_wrong(self):
        self.check("FRAME LENGTH 2 BIG", b"\x00", [wrong(0, 1, CLOSED)])
        self.check("FRAME LENGTH 2 BIG", b"\x00\x02", [wrong(0, 2, CLOSED)])
        self.check("FRAME LENGTH 2 BIG", b"\x00\x01a\x00\x02b", [whole(0, 3, NUMBER, b"a"), wrong(3, 6, CLOSED)])


class SlipTest(Checked):
    def test_ends(self):
        self.check(SLIP, [192, 1, 2, 192, 192, 3], [
            whole(0, 1, END, []), whole(1, 4, END, [1, 2]), whole(4, 5, END, []), whole(5, 6, CLOSED, [3])])

    def test_escapes(self):
        self.check(SLIP, [219, 220, 219, 221, 220, 221, 192], [whole(0, 7, END, [192, 219, 220, 221])])

    def test_odd_escapes(self):
        self.check(SLIP, [219, 192, 219, 219, 219, 110, 192], [whole(0, 7, END, [192, 219, 110], 3)])

    def test_an_escape_that_waits_at_the_close(self):
        self.check(SLIP, [1, 219], [whole(0, 2, CLOSED, [1, 219], 1)])
        self.check(SLIP, [219], [whole(0, 1, CLOSED, [219], 1)])

    def test_10_and_13_are_content(self):
        self.check(SLIP, [13, 10, 192], [whole(0, 3, END, [13, 10])])

    def test_ends_of_10_and_13(self):
        self.check("FRAME SLIP END 10 ESC 13 AS 110 114", [13, 110, 13, 114, 13, 13, 10], [
            whole(0, 7, END, [10, 13, 13], 1)])

    def test_the_limit(self):
        self.check(SLIP + "\nLIMIT 1 CUT", [1, 219, 220, 192], [(0, 4, END, CUT, 1, 0, bytes([1]))])
        self.check(SLIP + "\nLIMIT 1 DROP", [1, 219, 220, 192], [(0, 4, END, DROPPED, 2, 0, b"")])


if __name__ == "__main__":
    unittest.main()

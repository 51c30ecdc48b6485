import unittest

from telling import Telling, records_of


def texts(rules, told):
    """(lines, from, up to, text) of each record."""
    given = records_of("FRAME LINES LF\n" + rules, told)
    return [(answer[1], answer[2], answer[3], "".join(chr(point) for point in answer[8:])) for answer in given]


class RecordsTest(unittest.TestCase):
    def test_none_makes_each_line_a_record(self):
        self.assertEqual(texts("JOIN NONE", "a\n b\n\nc"),
                         [(1, 0, 2, "a"), (1, 2, 5, " b"), (1, 5, 6, ""), (1, 6, 7, "c")])
        self.assertEqual(texts("JOIN NONE MOST 3 WITH SPACE", "a\n b"), [(1, 0, 2, "a"), (1, 2, 4, " b")])

    def test_none_is_the_way_that_is_not_told(self):
        self.assertEqual(texts("", "a\n b"), [(1, 0, 2, "a"), (1, 2, 4, " b")])

    def test_blank(self):
        self.assertEqual(texts("JOIN BLANK", "a\n b\n\tc\nd\n\n e\n"),
                         [(3, 0, 8, "a\n b\n\tc"), (1, 8, 10, "d"), (2, 10, 14, "\n e")])

    def test_blank_with_nothing_gathered(self):
        self.assertEqual(texts("JOIN BLANK", " a\n b\nc"), [(2, 0, 6, " a\n b"), (1, 6, 7, "c")])

    def test_blank_with_most(self):
        self.assertEqual(texts("JOIN BLANK MOST 2", "a\n b\n c\n d\n e\nf"),
                         [(2, 0, 5, "a\n b"), (2, 5, 11, " c\n d"), (1, 11, 14, " e"), (1, 14, 15, "f")])
        self.assertEqual(texts("JOIN BLANK MOST 1", "a\n b\n"), [(1, 0, 2, "a"), (1, 2, 5, " b")])

    def test_most_is_8_if_it_is_not_told(self):
        given = texts("JOIN BLANK WITH NOTHING", "a\n" + " b\n" * 8)
        self.assertEqual(given, [(8, 0, 23, "a" + " b" * 7), (1, 23, 26, " b")])

    def test_head_digit(self):
        self.assertEqual(texts("JOIN HEAD DIGIT WITH SPACE", "x\ny\n0a\n\n/\n:\n9\n"),
                         [(2, 0, 4, "x y"), (4, 4, 12, "0a  / :"), (1, 12, 14, "9")])

    def test_head_letter(self):
        self.assertEqual(texts("JOIN HEAD LETTER WITH NOTHING", "A\n@\nZ\n[\na\n`\nz\n{\n5\n\n"),
                         [(2, 0, 4, "A@"), (2, 4, 8, "Z["), (2, 8, 12, "a`"), (4, 12, 19, "z{5")])

    def test_every_head(self):
        for point in range(128):
            if point != 10:
                given = texts("JOIN HEAD LETTER", "-\n" + chr(point))
                self.assertEqual(len(given), 2 if chr(point).isalpha() else 1)
                given = texts("JOIN HEAD DIGIT", "-\n" + chr(point))
                self.assertEqual(len(given), 2 if chr(point).isdigit() else 1)
                given = texts("JOIN BLANK", "-\n" + chr(point))
                self.assertEqual(len(given), 1 if point in (9, 32) else 2)

    def test_head_with_a_told_code_point(self):
        self.assertEqual(texts("JOIN HEAD 62 MOST 3", ">a\nb\n>c\nd\ne\nf\n"),
                         [(2, 0, 5, ">a\nb"), (3, 5, 12, ">c\nd\ne"), (1, 12, 14, "f")])
        given = records_of("FRAME LINES LF\nJOIN HEAD 8364", "x\n€y\nz\n".encode())
        self.assertEqual([answer[8:] for answer in given], [[120], [8364, 121, 10, 122]])

    def test_tail(self):
        self.assertEqual(texts("JOIN TAIL 43", "a+\nb+\nc\nd\n+\n\ne+"),
                         [(3, 0, 8, "a\nb\nc"), (1, 8, 10, "d"), (2, 10, 13, "\n"), (1, 13, 15, "e")])

    def test_tail_with_most(self):
        self.assertEqual(texts("JOIN TAIL 43 MOST 2 WITH NOTHING", "a+\nb+\nc+\nd\n"),
                         [(2, 0, 6, "ab+"), (2, 6, 11, "cd")])
        self.assertEqual(texts("JOIN TAIL 43 MOST 1", "a+\nb\n"), [(1, 0, 3, "a+"), (1, 3, 5, "b")])

    def test_tail_loses_one_code_point_alone(self):
        self.assertEqual(texts("JOIN TAIL 43 WITH SPACE", "a++\nb\n"), [(2, 0, 6, "a+ b")])

    def test_the_joint_also_stands_beside_empty_lines(self):
        self.assertEqual(texts("JOIN HEAD DIGIT", "\n\n\n"), [(3, 0, 3, "\n\n")])
        self.assertEqual(texts("JOIN HEAD DIGIT WITH NOTHING", "\n\n\n"), [(3, 0, 3, "")])

    def test_marks_odd_ones_and_cut_of_all_lines_together(self):
        rules = "FRAME LINES LF ESC 92\nLIMIT 4 CUT\nJOIN BLANK\nDECODE MARK"
        told = [97, 255, 10, 32, 92, 120, 255, 254, 10, 32, 92, 121, 98, 99, 100, 101, 10, 97, 10]
        given = records_of(rules, told)
        first = [97, 65533, 10, 32, 120, 65533, 65533, 10, 32, 121, 98, 99]
        self.assertEqual(given, [[0, 3, 0, 17, 3, 2, 1, len(first)] + first, [1, 1, 17, 19, 0, 0, 0, 1, 97]])

    def test_a_frame_that_makes_no_line_leaves_what_is_gathered(self):
        rules = "FRAME LINES LF\nLIMIT 3 DROP\nJOIN HEAD 97 WITH SPACE\nDECODE STRICT\nEMPTY SKIP"
        told = [97, 10, 97, 97, 97, 97, 10, 255, 10, 10, 98, 10]
        self.assertEqual(records_of(rules, told), [[0, 2, 0, 12, 0, 0, 0, 3, 97, 32, 98]])

    def test_empty_keep_and_skip(self):
        self.assertEqual(texts("EMPTY KEEP", "a\n\nb"), [(1, 0, 2, "a"), (1, 2, 3, ""), (1, 3, 4, "b")])
        self.assertEqual(texts("", "a\n\nb"), [(1, 0, 2, "a"), (1, 2, 3, ""), (1, 3, 4, "b")])
        self.assertEqual(texts("EMPTY SKIP", "a\n\nb"), [(1, 0, 2, "a"), (1, 3, 4, "b")])

    def test_records_wait_till_a_line_begins_the_next_one(self):
        telling = Telling().open(0, "FRAME LINES LF\nJOIN BLANK").feed(0, 0, "a\n b\n").feed(0, 5, "c\n").close(0)
        self.assertEqual(telling.answers(), [[0, 1], [5, 0], [7, 1], [1]])

    def test_numbers_go_on(self):
        given = records_of("FRAME LINES LF", "a\nb\nc\n")
        self.assertEqual([answer[0] for answer in given], [0, 1, 2])


if __name__ == "__main__":
    unittest.main()

import unittest

from piecelines.rules import read_rules
from telling import Telling, row_of

GOOD = [
    "FRAME LINES LF",
    "FRAME LINES CRLF",
    "FRAME LINES ANY",
    "FRAME LINES LF ESC 92",
    "FRAME LINES CRLF ESC 0",
    "FRAME LINES ANY ESC 255",
    "FRAME COUNT BASE 2 SEP 0",
    "FRAME COUNT BASE 36 SEP 255",
    "FRAME COUNT BASE 10 SEP 48",
    "FRAME LENGTH 1 BIG",
    "FRAME LENGTH 4 LITTLE",
    "FRAME LENGTH 2 BIG PLUS 100",
    "FRAME LENGTH 2 LITTLE MINUS 0",
    "FRAME SLIP END 192 ESC 219 AS 220 221",
    "FRAME SLIP END 0 ESC 255 AS 10 13",
    "FRAME SLIP END 255 ESC 0 AS 1 2",
    "FRAME LINES LF\nLIMIT 1 CUT",
    "FRAME LINES LF\nLIMIT 1000 DROP",
    "FRAME LINES LF\nLIMIT 00012 SPLIT",
    "FRAME LINES LF\nDECODE STRICT",
    "FRAME LINES LF\nDECODE MARK",
    "DECODE BYTES\nFRAME LINES LF",
    "FRAME LINES LF\nJOIN NONE",
    "FRAME LINES LF\nJOIN NONE MOST 3 WITH SPACE",
    "FRAME LINES LF\nJOIN BLANK MOST 1",
    "FRAME LINES LF\nJOIN BLANK WITH NOTHING",
    "FRAME LINES LF\nJOIN TAIL 0 MOST 8 WITH LF",
    "FRAME LINES LF\nJOIN TAIL 65535",
    "FRAME LINES LF\nJOIN HEAD DIGIT",
    "FRAME LINES LF\nJOIN HEAD LETTER WITH LF",
    "FRAME LINES LF\nJOIN HEAD 65535 MOST 2",
    "EMPTY KEEP\nFRAME LINES LF",
    "EMPTY SKIP\nFRAME LINES LF",
    "  FRAME   LINES  LF  ",
    "\n\n   \n# FRAME\n#x\nFRAME LINES LF\n#\n",
]

BAD_LINES = [
    "FRAME",
    "FRAME LINE LF",
    "FRAME LINES",
    "FRAME LINES CR",
    "FRAME LINES lf",
    "FRAME LINES LF LF",
    "FRAME LINES LF ESC",
    "FRAME LINES LF ESC 10",
    "FRAME LINES LF ESC 13",
    "FRAME LINES LF ESC 256",
    "FRAME LINES LF ESC x",
    "FRAME LINES LF ESC -1",
    "FRAME LINES LF ESC 000092",
    "FRAME LINES LF ESC 92 92",
    "FRAME LINES LF END 92",
    "FRAME LINES LF\t",
    "FRAME LINES LF #",
    "FRAME COUNT",
    "FRAME COUNT BASE 1 SEP 32",
    "FRAME COUNT BASE 37 SEP 32",
    "FRAME COUNT BASE 10 SEP 256",
    "FRAME COUNT BASE 10 SEP",
    "FRAME COUNT BASE 10",
    "FRAME COUNT 10 SEP 32",
    "FRAME COUNT SEP 32 BASE 10",
    "FRAME COUNT BASE 10 SEP 32 0",
    "FRAME LENGTH",
    "FRAME LENGTH 0 BIG",
    "FRAME LENGTH 5 BIG",
    "FRAME LENGTH BIG",
    "FRAME LENGTH 2",
    "FRAME LENGTH 2 MIDDLE",
    "FRAME LENGTH 2 BIG PLUS",
    "FRAME LENGTH 2 BIG PLUS 101",
    "FRAME LENGTH 2 BIG MINUS 101",
    "FRAME LENGTH 2 BIG MINUS -1",
    "FRAME LENGTH 0 BIG PLUS 3",
    "FRAME LENGTH 5 LITTLE MINUS 3",
    "FRAME LENGTH x BIG PLUS 3",
    "FRAME LENGTH 2 BIG TIMES 3",
    "FRAME LENGTH 2 BIG PLUS 3 MINUS 3",
    "FRAME SLIP",
    "FRAME SLIP END 192 ESC 219 AS 220",
    "FRAME SLIP END 192 ESC 219 AS 220 221 222",
    "FRAME SLIP END 256 ESC 219 AS 220 221",
    "FRAME SLIP END 192 ESC 192 AS 220 221",
    "FRAME SLIP END 192 ESC 219 AS 192 221",
    "FRAME SLIP END 192 ESC 219 AS 220 192",
    "FRAME SLIP END 192 ESC 219 AS 219 221",
    "FRAME SLIP END 192 ESC 219 AS 220 219",
    "FRAME SLIP END 192 ESC 219 AS 220 220",
    "FRAME SLIP ESC 192 END 219 AS 220 221",
    "LIMIT",
    "LIMIT 0 CUT",
    "LIMIT 1001 CUT",
    "LIMIT 000001 CUT",
    "LIMIT 5",
    "LIMIT CUT",
    "LIMIT 5 KEEP",
    "LIMIT 5 CUT DROP",
    "DECODE",
    "DECODE UTF8",
    "DECODE MARK MARK",
    "JOIN",
    "JOIN ALL",
    "JOIN NONE 3",
    "JOIN TAIL",
    "JOIN TAIL 65536",
    "JOIN TAIL DIGIT",
    "JOIN HEAD",
    "JOIN HEAD DIGITS",
    "JOIN HEAD 65536",
    "JOIN HEAD MOST 3",
    "JOIN BLANK MOST",
    "JOIN BLANK MOST 0",
    "JOIN BLANK MOST 9",
    "JOIN BLANK WITH",
    "JOIN BLANK WITH TAB",
    "JOIN BLANK WITH LF MOST 3",
    "JOIN BLANK MOST 3 MOST 3",
    "JOIN BLANK MOST 3 3",
    "JOIN BLANK WITH LF LF",
    "JOIN NONE NONE",
    "JOIN BLANK 32",
    "EMPTY",
    "EMPTY NO",
    "EMPTY KEEP SKIP",
]


def opened(rules):
    return Telling().open(3, rules).last()


class RulesTest(unittest.TestCase):
    def test_right_rules_are_taken(self):
        for rules in GOOD:
            with self.subTest(rules=rules):
                self.assertEqual(opened(rules), [0, 1])

    def test_a_line_that_is_not_as_told_is_3(self):
        for line in BAD_LINES:
            with self.subTest(line=line):
                self.assertEqual(opened("#\n" + line), [1, 3, 2])

    def test_an_unknown_first_word_is_1(self):
        for line in ("frame LINES LF", "FRAMES LINES LF", "\tFRAME LINES LF", "FRAME\tLINES LF", "x#", "SHOW"):
            with self.subTest(line=line):
                self.assertEqual(opened("FRAME LINES LF\n\n" + line), [1, 1, 3])
        self.assertEqual(opened([200, 201]), [1, 1, 1])
        self.assertEqual(opened([70, 82, 65, 77, 69, 0]), [1, 1, 1])

    def test_a_13_is_no_blank(self):
        self.assertEqual(opened("FRAME LINES LF\r\nEMPTY KEEP"), [1, 3, 1])

    def test_told_twice_is_2_ahead_of_3(self):
        for line in ("FRAME LINES LF", "LIMIT 3 CUT", "DECODE MARK", "JOIN NONE", "EMPTY KEEP"):
            first = "" if line.startswith("FRAME") else "FRAME LINES LF\n"
            at = 2 if first == "" else 3
            with self.subTest(line=line):
                self.assertEqual(opened(first + line + "\n" + line), [1, 2, at])
                self.assertEqual(opened(first + line + "\n" + line.split(" ")[0] + " x"), [1, 2, at])

    def test_the_first_line_with_a_fault_counts(self):
        self.assertEqual(opened("LIMIT 0 CUT\nWHAT\nEMPTY KEEP\nEMPTY KEEP"), [1, 3, 1])
        self.assertEqual(opened("EMPTY KEEP\nWHAT\nLIMIT 0 CUT"), [1, 1, 2])
        self.assertEqual(opened("EMPTY KEEP\nEMPTY KEEP\nWHAT"), [1, 2, 2])

    def test_without_frame_it_is_4_of_the_line_behind_the_last(self):
        self.assertEqual(opened(""), [1, 4, 2])
        self.assertEqual(opened("\n"), [1, 4, 3])
        self.assertEqual(opened("#FRAME LINES LF"), [1, 4, 2])
        self.assertEqual(opened("EMPTY KEEP\nJOIN NONE"), [1, 4, 3])
        self.assertEqual(opened("EMPTY KEEP\n"), [1, 4, 3])

    def test_a_text_has_at_most_300_bytes(self):
        text = "FRAME LINES LF\n#"
        self.assertEqual(opened(text + "x" * (300 - len(text))), [0, 1])
        self.assertEqual(opened(text + "x" * (301 - len(text))), [-2])
        self.assertEqual(opened("x" * 300), [1, 1, 1])

    def test_a_text_is_bytes(self):
        for number in (-1, 256, 10 ** 18, -10 ** 18):
            self.assertEqual(opened(row_of("FRAME LINES LF\n#") + [number]), [-2])
        self.assertEqual(opened(row_of("FRAME LINES LF\n#") + [0, 255]), [0, 1])

    def test_what_is_not_told_is_as_the_document_says(self):
        rules = read_rules(row_of("FRAME LINES LF"))
        self.assertEqual((rules.limit, rules.beyond, rules.decoding), (1000, "CUT", "MARK"))
        self.assertEqual((rules.how, rules.most, rules.joint, rules.empty), ("NONE", 8, "LF", "KEEP"))
        rules = read_rules(row_of("FRAME LENGTH 2 BIG MINUS 7\nJOIN HEAD 7 WITH SPACE"))
        self.assertEqual((rules.shift, rules.point, rules.most, rules.joint), (-7, 7, 8, "SPACE"))


if __name__ == "__main__":
    unittest.main()

"""Rules shown by rule and try_rules."""

import unittest

from telling import Telling, text_in

OUTSIDE = (-1, 16, 10 ** 18, -10 ** 18)
REST = ["LIMIT 1000 CUT", "DECODE MARK", "JOIN NONE MOST 8 WITH LF", "EMPTY KEEP"]

# A line of FRAME as told, and as shown if that is another.
FRAMES = [
    ("FRAME LINES LF", None),
    ("FRAME LINES CRLF", None),
    ("FRAME LINES ANY", None),
    ("FRAME LINES LF ESC 92", None),
    ("FRAME LINES CRLF ESC 0", None),
    ("FRAME LINES ANY ESC 255", None),
    ("FRAME LINES ANY ESC 00007", "FRAME LINES ANY ESC 7"),
    ("FRAME COUNT BASE 2 SEP 0", None),
    ("FRAME COUNT BASE 36 SEP 255", None),
    ("FRAME COUNT BASE 010 SEP 032", "FRAME COUNT BASE 10 SEP 32"),
    ("FRAME LENGTH 1 BIG", None),
    ("FRAME LENGTH 04 LITTLE", "FRAME LENGTH 4 LITTLE"),
    ("FRAME LENGTH 2 BIG PLUS 100", None),
    ("FRAME LENGTH 3 LITTLE PLUS 1", None),
    ("FRAME LENGTH 2 BIG MINUS 100", None),
    ("FRAME LENGTH 2 LITTLE MINUS 01", "FRAME LENGTH 2 LITTLE MINUS 1"),
    ("FRAME LENGTH 2 BIG PLUS 0", "FRAME LENGTH 2 BIG"),
    ("FRAME LENGTH 2 BIG MINUS 00000", "FRAME LENGTH 2 BIG"),
    ("FRAME SLIP END 192 ESC 219 AS 220 221", None),
    ("FRAME SLIP END 0 ESC 255 AS 10 013", "FRAME SLIP END 0 ESC 255 AS 10 13"),
    ("  FRAME   LINES  LF   ESC  92 ", "FRAME LINES LF ESC 92"),
]

# Another line as told, which of REST it stands for, and as shown.
OTHERS = [
    ("LIMIT 1 CUT", 0, "LIMIT 1 CUT"),
    ("LIMIT 1000 CUT", 0, "LIMIT 1000 CUT"),
    ("LIMIT 00999 DROP", 0, "LIMIT 999 DROP"),
    ("LIMIT 50 SPLIT", 0, "LIMIT 50 SPLIT"),
    ("DECODE STRICT", 1, "DECODE STRICT"),
    ("DECODE MARK", 1, "DECODE MARK"),
    ("DECODE BYTES", 1, "DECODE BYTES"),
    ("JOIN NONE", 2, "JOIN NONE MOST 8 WITH LF"),
    ("JOIN NONE MOST 3 WITH SPACE", 2, "JOIN NONE MOST 3 WITH SPACE"),
    ("JOIN BLANK", 2, "JOIN BLANK MOST 8 WITH LF"),
    ("JOIN BLANK MOST 01", 2, "JOIN BLANK MOST 1 WITH LF"),
    ("JOIN BLANK WITH NOTHING", 2, "JOIN BLANK MOST 8 WITH NOTHING"),
    ("JOIN TAIL 0", 2, "JOIN TAIL 0 MOST 8 WITH LF"),
    ("JOIN TAIL 00092 MOST 2 WITH SPACE", 2, "JOIN TAIL 92 MOST 2 WITH SPACE"),
    ("JOIN TAIL 65535 WITH LF", 2, "JOIN TAIL 65535 MOST 8 WITH LF"),
    ("JOIN HEAD DIGIT", 2, "JOIN HEAD DIGIT MOST 8 WITH LF"),
    ("JOIN HEAD LETTER MOST 8 WITH NOTHING", 2, "JOIN HEAD LETTER MOST 8 WITH NOTHING"),
    ("JOIN HEAD 0", 2, "JOIN HEAD 0 MOST 8 WITH LF"),
    ("JOIN HEAD 65535 MOST 7", 2, "JOIN HEAD 65535 MOST 7 WITH LF"),
    ("EMPTY KEEP", 3, "EMPTY KEEP"),
    ("EMPTY SKIP", 3, "EMPTY SKIP"),
]


def all_shown():
    """(the rules told, the rules shown) of every kind."""
    cases = []
    for told, shown in FRAMES:
        cases.append((told, "\n".join([shown or told] + REST)))
    for told, at, shown in OTHERS:
        due = "\n".join(["FRAME LINES LF"] + REST[:at] + [shown] + REST[at + 1:])
        cases.append(("FRAME LINES LF\n" + told, due))
        cases.append((told + "\n\n# FRAME\n   \n FRAME LINES  LF\n", due))
    return cases


class TryRulesTest(unittest.TestCase):
    def test_every_kind_is_shown(self):
        for told, shown in all_shown():
            with self.subTest(told=told):
                answer = Telling().try_rules(told).last()
                self.assertEqual(answer[0], 0)
                self.assertEqual(text_in(answer, 1), shown)

    def test_what_is_shown_is_read_and_shown_alike(self):
        for told, shown in all_shown():
            self.assertEqual(Telling().try_rules(shown).last(), Telling().try_rules(told).last())

    def test_what_is_shown_works_alike(self):
        row = [97, 98, 92, 110, 32, 49, 92, 13, 10, 9, 97, 0, 0, 219, 220, 192, 255, 1, 2, 3, 13, 13, 10, 10, 48, 10, 97]
        for told, shown in all_shown():
            given = Telling().frames(told, row).frames(shown, row).batch(told, row).batch(shown, row).answers()
            self.assertEqual((given[0], given[2]), (given[1], given[3]))

    def test_all_lines_told_in_another_order(self):
        told = "EMPTY SKIP\nJOIN HEAD 7 MOST 2 WITH SPACE\nDECODE BYTES\nLIMIT 9 SPLIT\nFRAME LENGTH 1 BIG PLUS 3"
        self.assertEqual(text_in(Telling().try_rules(told).last(), 1), "\n".join(told.split("\n")[::-1]))

    def test_the_form_of_the_answer(self):
        text = "\n".join(["FRAME LINES LF"] + REST)
        answer = Telling().try_rules("FRAME LINES LF").last()
        self.assertEqual(answer, [0, len(text)] + [ord(sign) for sign in text])

    def test_wrong_rules(self):
        for told, due in (("", [1, 4, 2]), ("WHAT", [1, 1, 1]), ("#\nFRAME LINES LF\nFRAME LINES LF", [1, 2, 3]),
                          ("FRAME LINES LF ESC 10", [1, 3, 1]), ("EMPTY KEEP", [1, 4, 2]), ("x" * 300, [1, 1, 1])):
            self.assertEqual(Telling().try_rules(told).last(), due)

    def test_refusals(self):
        for number in (-1, 256, 10 ** 18, -10 ** 18):
            self.assertEqual(Telling().try_rules([number]).last(), [-2])
            self.assertEqual(Telling().try_rules([ord(sign) for sign in "FRAME LINES LF\n#"] + [number]).last(), [-2])
        self.assertEqual(Telling().try_rules([32] * 300).last(), [1, 4, 2])
        self.assertEqual(Telling().try_rules([32] * 301).last(), [-2])

    def test_it_opens_nothing(self):
        telling = Telling().try_rules("FRAME LINES LF").counts().rule(0)
        self.assertEqual(telling.answers()[1:], [[0, 0], [-4]])


class RuleTest(unittest.TestCase):
    def test_every_kind_is_shown(self):
        for told, shown in all_shown():
            answer = Telling().open(5, told).rule(5).last()
            self.assertEqual(answer[0], 1)
            self.assertEqual(text_in(answer, 1), shown)

    def test_how_often_it_was_opened(self):
        telling = Telling().open(0, "FRAME LINES LF").close(0).open(0, "FRAME LINES ANY").close(0).rule(0)
        self.assertEqual(telling.last()[0], 2)
        self.assertEqual(text_in(telling.last(), 1), "\n".join(["FRAME LINES ANY"] + REST))

    def test_power_leaves_the_rules(self):
        telling = Telling().open(0, "FRAME LINES LF").close(0).open(0, "FRAME LINES ANY").rule(0).cut().rule(0)
        telling.save(0).cut().rule(0)
        given = telling.answers()
        self.assertEqual((given[5], given[8]), (given[3], given[3]))

    def test_wrong_rules_leave_those_before(self):
        telling = Telling().open(0, "FRAME LINES ANY").close(0).open(0, "FRAME").open(0, [300]).rule(0)
        self.assertEqual(telling.last()[0], 1)
        self.assertEqual(text_in(telling.last(), 1), "\n".join(["FRAME LINES ANY"] + REST))

    def test_of_each_sender_its_own(self):
        telling = Telling().open(0, "FRAME LINES LF").open(1, "FRAME LINES CRLF").rule(0).rule(1)
        self.assertEqual([text_in(answer, 1).split("\n")[0] for answer in telling.answers()[2:]],
                         ["FRAME LINES LF", "FRAME LINES CRLF"])

    def test_refusals(self):
        for sender in OUTSIDE:
            self.assertEqual(Telling().rule(sender).last(), [-1])
        self.assertEqual(Telling().open(1, "FRAME LINES LF").rule(0).last(), [-4])


if __name__ == "__main__":
    unittest.main()

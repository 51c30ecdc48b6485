"""Texts of checkpoints, and rules with bytes that leave something held."""

from telling import Telling, row_of, slot_text

LF = "FRAME LINES LF"
JOINED = "FRAME LINES LF ESC 92\nJOIN BLANK"
SLIP = "FRAME SLIP END 192 ESC 219 AS 220 221"

# Together they hold all that can be held.
HOLDING = [
    (JOINED, row_of("a\n b\nc\nd\\x\\")),
    (LF + "\nLIMIT 2 CUT\nDECODE BYTES\nJOIN TAIL 43", row_of("abcd+\na+\n") + [200, 10, 97]),
    ("FRAME LINES CRLF\nLIMIT 2 SPLIT", row_of("abc\rd\r\r\n\r")),
    ("FRAME LINES ANY ESC 92\nEMPTY SKIP", row_of("a\r\nb\r\\\nc\r\r\n\n")),
    (SLIP + "\nDECODE STRICT", [1, 219, 220, 219, 5, 192, 192, 255, 192, 7, 219]),
    ("FRAME COUNT BASE 10 SEP 32\nLIMIT 2 SPLIT", row_of("012 abcdefghijklx0 y\n3 ab")),
    ("FRAME COUNT BASE 10 SEP 32\nLIMIT 2 DROP", row_of("3 abc2 de1")),
    ("FRAME LENGTH 3 BIG\nLIMIT 1 CUT", [0, 0, 2, 97, 98, 0, 0, 0, 1, 2, 3, 4]),
    ("FRAME LENGTH 2 LITTLE PLUS 1", [0, 0, 97, 2, 0, 97, 98, 99, 255, 255, 97]),
]

# The lines ahead of the check of a sender by JOINED behind "a\n b\nc\nd\\".
GOOD = ["LOG 1 1 1 9 1", "SUMS 3 0 0 0 0 0", "HELD 1 7 1 0 0 0 0 0 0 0 100", "PEND 1 5 7 0 0 0 99",
        "REC 0 2 0 5 0 0 0 97 10 32 98"]


def signed(lines):
    """The lines with their check behind them."""
    ahead = "".join(line + "\n" for line in lines)
    return ahead + "SUM " + str(sum(ord(sign) * (at + 1) for at, sign in enumerate(ahead)) % 65521)


def fed(rules, told, closed=False):
    telling = Telling().open(0, rules).feed(0, 0, told)
    return telling.close(0) if closed else telling


def text_behind(rules, told, closed=False):
    """The first checkpoint of a sender that was fed so."""
    return slot_text(fed(rules, told, closed).save(0), 0, 1)

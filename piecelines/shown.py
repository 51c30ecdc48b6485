"""Rules shown as a text: five lines that are read as the same rules."""

from piecelines.words import told_line


def lines_words(rules):
    if rules.escape < 0:
        return [rules.ending]
    return [rules.ending, "ESC", rules.escape]


def count_words(rules):
    return ["BASE", rules.base, "SEP", rules.sep]


def length_words(rules):
    if rules.shift == 0:
        return [rules.width, rules.order]
    return [rules.width, rules.order, "PLUS" if rules.shift > 0 else "MINUS", abs(rules.shift)]


def slip_words(rules):
    return ["END", rules.end, "ESC", rules.escape, "AS", rules.for_end, rules.for_escape]


FRAME_WORDS = {"LINES": lines_words, "COUNT": count_words, "LENGTH": length_words, "SLIP": slip_words}


def frame_words(rules):
    return [rules.kind] + FRAME_WORDS[rules.kind](rules)


def join_words(rules):
    words = [rules.how]
    if rules.how in ("TAIL", "HEAD"):
        words.append(rules.point if rules.sign == "POINT" else rules.sign)
    return words + ["MOST", rules.most, "WITH", rules.joint]


def shown_rules(rules):
    return "\n".join([
        told_line("FRAME", frame_words(rules)),
        told_line("LIMIT", [rules.limit, rules.beyond]),
        told_line("DECODE", [rules.decoding]),
        told_line("JOIN", join_words(rules)),
        told_line("EMPTY", [rules.empty]),
    ])

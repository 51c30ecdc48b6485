"""Rows of bytes read as texts of signs, and texts and rows as they are told."""

# Every sign that a word of the rules or of a checkpoint may hold.
SIGNS = "0123456789ABCDEFGHIJKLMNOPQRSTUVWXYZ# \n"

# It stands for all other bytes: no word that is asked for has it.
STRANGE = "?"


def is_bytes(row, most):
    return len(row) <= most and all([0 <= number <= 255 for number in row])


def spelled(row):
    table = {}
    for sign in SIGNS:
        table[ord(sign)] = sign
    return "".join([table.get(byte, STRANGE) for byte in row])


# A number of at most five digits; -1 if the word is none, or lies outside.
def number_within(word, least, most):
    if not word.isdigit() or len(word) > 5:
        return -1
    number = int(word)
    return number if least <= number <= most else -1


def told_line(word, told):
    return " ".join([word] + [str(each) for each in told])


def row_of_text(text):
    return [ord(sign) for sign in text]


# A row as it is answered: how many numbers it has stands ahead.
def with_size(row):
    return [len(row)] + row

"""The kinds of things: whole numbers, values, names, operands, deeds and rows."""

# Values lie below this number, and worths are reckoned modulo it.
BOUND = 1000000000000
LETTERS = "abcdefghijklmnopqrstuvwxyz"
FIGURES = "0123456789"
LONGEST_NAME = 8
# A tuple and no dict: what is asked for in it may be a list, which no dict can look up.
DEED_KINDS = ("plus", "minus", "times", "less", "same")


def is_whole(thing):
    # Truths are ints to Python, but no whole numbers here.
    return isinstance(thing, int) and not isinstance(thing, bool)


def is_value(thing):
    return is_whole(thing) and 0 <= thing < BOUND


def is_name(thing):
    if not isinstance(thing, str) or not 1 <= len(thing) <= LONGEST_NAME:
        return False
    return thing[0] in LETTERS and all([sign in LETTERS + FIGURES for sign in thing])


def is_operand(thing):
    return is_name(thing) or is_value(thing)


def is_deed(thing):
    if not isinstance(thing, tuple) or len(thing) != 3:
        return False
    return thing[0] in DEED_KINDS and is_operand(thing[1]) and is_operand(thing[2])


def is_row(thing):
    if not isinstance(thing, tuple) or len(thing) == 0:
        return False
    kind = thing[0]
    rest = thing[1:]
    if kind == "set":
        return len(rest) == 2 and is_name(rest[0]) and is_deed(rest[1])
    if kind == "copy":
        return len(rest) == 2 and is_name(rest[0]) and is_operand(rest[1])
    if kind == "take":
        return len(rest) == 1 and is_name(rest[0])
    if kind in ("tell", "ask"):
        return len(rest) == 1 and is_operand(rest[0])
    return kind == "skip" and len(rest) == 0

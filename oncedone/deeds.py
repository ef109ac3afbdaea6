"""What deeds are worth, and what rows do, set, read and spoil."""

from oncedone.words import BOUND


def worth_of(operand, store):
    if isinstance(operand, str):
        return store.get(operand, 0)
    return operand


def worth(deed, store):
    kind = deed[0]
    one = worth_of(deed[1], store)
    other = worth_of(deed[2], store)
    if kind == "plus":
        return (one + other) % BOUND
    if kind == "minus":
        return (one - other) % BOUND
    if kind == "times":
        return (one * other) % BOUND
    if kind == "less":
        return 1 if one < other else 0
    return 1 if one == other else 0


def deed_of(row):
    return row[2] if row[0] == "set" else None


def set_by(row):
    return row[1] if row[0] in ("set", "copy", "take") else None


def operands_of(row):
    kind = row[0]
    if kind == "set":
        return [row[2][1], row[2][2]]
    if kind == "copy":
        return [row[2]]
    if kind in ("tell", "ask"):
        return [row[1]]
    return []


def reads_of(row):
    names = []
    for operand in operands_of(row):
        if isinstance(operand, str) and operand not in names:
            names.append(operand)
    return names


def does(row, deed):
    return deed_of(row) == deed


def spoils(row, deed):
    # The deed's kind is left out: a name may be the same word.
    return set_by(row) in deed[1:]
